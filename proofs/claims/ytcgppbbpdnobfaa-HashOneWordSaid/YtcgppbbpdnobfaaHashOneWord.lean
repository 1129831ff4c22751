/-
  HashOneWord (P1.5): for every label and list of numbers, replacing exactly one element by a different number changes the sum, and the chapter's examples hold; for every input, without a condition.
-/
import Derived.Test.YtcgppbbpdnobfaaHCopy
import Derived.Deep.RegionHeld3
namespace Go.Proofs.Ytcgppbbpdnobfaa.hashOneWord
open Go.ChangeShapes Go.WideShapes Go.ChangeAt Go.RowKit
open Go.ChangeMaps (open_string shut_string)
set_option linter.unusedVariables false
theorem one_word (lab : List Int) (l : List Int) (k : Nat) (hk : k < l.length) (n : Int) (hl : ∀ x ∈ l, (Lit.int .i64 x).wf = true) (hn : (Lit.int .i64 n).wf = true) :
    H.sumI lab (l.set k n) = H.sumI lab l ↔ n = l[k] := by
  have h1 := H.i64_range hn
  have h2 := H.i64_range (hl l[k] (List.getElem_mem _))
  unfold H.sumI
  rw [List.length_set, H.foldI_set l k hk]
  omega

set_option maxHeartbeats 1000000 in
theorem walk (a0 : ByteArray) (a1 : Option Addr) (n1 c1 : Nat) (z1 : List Int) (a2 : Int) (a3 : Int) (w : World) (r0 : a0.size ≤ 140737488351232) (r1 : n1 * 8 ≤ 140737488351232) (l1 : z1.length = n1) (rd1 : H.RdI w w.heap.size .i64 a1 z1) (wf1 : ∀ n ∈ z1, (Lit.int .i64 n).wf = true) (cp1 : n1 ≤ c1 ∧ c1 ≤ maxLen) (w2 : (Lit.int .i64 a2).wf = true) (w3 : (Lit.int .i64 a3).wf = true) :
    Calls Try.prog 6 #[.string a0, .slice a1 n1 c1, .int .i64 a2, .int .i64 a3] w fun e w' => e = .returned (.bool true) ∧ Below w.heap.size w w' := by
  by_cases h0 : n1 = 0
  · subst h0
    have hl := H.lives_any w
    clear rd1 wf1 w2 w3
    go_enter Try.func6, Try.ntmps6
    go_wp2_with fail
    refine hl.mono ?_
    clear hl
    rintro e w1 ⟨rfl, b1⟩
    go_wp2_with fail
    go_ret
    exact ⟨rfl, b1⟩
  · obtain ⟨k0, hk0, hk1, har⟩ := H.around_any a2 n1 w2 (by omega) (by omega)
    obtain ⟨k, rfl⟩ := Int.eq_ofNat_of_zero_le hk0
    have hk : k < n1 := by omega
    have hin := H.ints_any a1 n1 c1 n1 z1 w l1 cp1.1 cp1.2 r1 (by omega) rd1
    rw [Nat.min_self, List.take_of_length_le (by omega)] at hin
    have hkz : k < z1.length := by omega
    have hw := one_word (H.bytesOf a0) z1 k hkz a3 wf1 w3
    have HW := Lib.hid hw
    have HL := Lib.hid l1
    have HR := Lib.hid rd1
    clear hw l1 rd1 wf1 w2 w3 cp1
    go_enter Try.func6, Try.ntmps6
    go_wp2_with fail
    refine (har w).mono ?_
    clear har
    rintro e w' ⟨rfl, rfl⟩
    go_wp2_with fail
    refine hin.mono ?_
    clear hin
    rintro e w1 ⟨v, rfl, hown, b1⟩
    obtain ⟨g, c, rfl, hg1, hg2⟩ := H.own_form hown (by omega)
    have hcell := hown.cellAt k (by omega)
    rw [List.getElem?_map, List.getElem?_eq_getElem (by rw [HL.out]; exact hk), Option.map_some] at hcell
    have hfz := hown.frozenAt k
    have HO := Lib.hid hown
    clear hown
    go_wp2_with fail
    obtain ⟨ad, rfl, hblk, hzc⟩ := HR.out.below b1 k (by rw [HL.out]; exact hk)
    rw [List.getElem?_eq_getElem (by rw [HL.out]; exact hk), Option.getD_some] at hzc
    have hO2 := (HO.out.stored k (.int .i64 a3)).1
    have hB2 := b1.setCell (p := ⟨g, k, none⟩) hg1 (.int .i64 a3)
    have hzc2 : (w1.setCell ⟨g, k, none⟩ (.int .i64 a3)).cell? (ad.add k) = some (.int .i64 z1[k]) := by
      rw [World.cell?_setCell_other _ _ _ _ (fun e => by have h := H.add_block ad k; rw [← e] at h; simp at h; omega)]
      exact hzc
    generalize hW2 : w1.setCell ⟨g, k, none⟩ (.int .i64 a3) = W2 at hO2 hB2 hzc2
    clear hW2 hcell hfz hzc HO
    rw [← List.map_set] at hO2
    have hr1 := (HR.out.below hB2).more hB2.size
    have hr2 := H.own_RdI hO2
    have hlt : ad.block < W2.heap.size := Nat.lt_of_lt_of_le hblk hB2.size
    have C1 : ∀ W', W'.cell? (ad.add k) = some (.int .i64 z1[k]) ∧ Below W2.heap.size W2 W' → Calls Try.prog 11 #[.string a0, .slice (some ⟨g, 0, none⟩) n1 c] W' fun e w' => e = .returned (.int .u64 (H.sumI (H.bytesOf a0) (z1.set k a3))) ∧ w'.cell? (ad.add k) = some (.int .i64 z1[k]) ∧ Below W2.heap.size W2 w' := fun W' ⟨hc, hb⟩ =>
      (H.sum_any a0 _ n1 c (z1.set k a3) W' r0 (by rw [List.length_set]; exact HL.out) (by omega) ((hr2.below hb).more hb.size)).mono fun e w' ⟨he, hb'⟩ => ⟨he, ((hb.trans (hb'.mono hb.size)).cell (p := ad.add k) (by rw [H.add_block]; exact hlt)).trans hzc2, hb.trans (hb'.mono hb.size)⟩
    have C2 : ∀ W', W'.cell? (ad.add k) = some (.int .i64 z1[k]) ∧ Below W2.heap.size W2 W' → Calls Try.prog 11 #[.string a0, .slice (some ad) n1 c1] W' fun e w' => e = .returned (.int .u64 (H.sumI (H.bytesOf a0) z1)) ∧ w'.cell? (ad.add k) = some (.int .i64 z1[k]) ∧ Below W2.heap.size W2 w' := fun W' ⟨hc, hb⟩ =>
      (H.sum_any a0 _ n1 c1 z1 W' r0 HL.out (by omega) ((hr1.below hb).more hb.size)).mono fun e w' ⟨he, hb'⟩ => ⟨he, ((hb.trans (hb'.mono hb.size)).cell (p := ad.add k) (by rw [H.add_block]; exact hlt)).trans hzc2, hb.trans (hb'.mono hb.size)⟩
    have C3 : ∀ W', W'.cell? (ad.add k) = some (.int .i64 z1[k]) ∧ Below W2.heap.size W2 W' → Calls Try.prog 13 #[] W' fun e w' => e = .returned (.bool true) ∧ w'.cell? (ad.add k) = some (.int .i64 z1[k]) ∧ Below W2.heap.size W2 w' := fun W' ⟨hc, hb⟩ =>
      (H.lives_any W').mono fun e w' ⟨he, hb'⟩ => ⟨he, ((hb.trans (hb'.mono hb.size)).cell (p := ad.add k) (by rw [H.add_block]; exact hlt)).trans hzc2, hb.trans (hb'.mono hb.size)⟩
    have hw := HW.out
    generalize hX : H.sumI (H.bytesOf a0) (z1.set k a3) = X at hw C1
    generalize hY : H.sumI (H.bytesOf a0) z1 = Y at hw C2
    generalize hZ : z1[k] = Z at hw C1 C2 C3 hzc2
    obtain ⟨cc, hcc⟩ : ∃ cc : Bool, (a3 == Z) = cc := ⟨_, rfl⟩
    have hcd : (X == Y) = cc := by rw [← hcc, Bool.eq_iff_iff]; simpa using hw
    have HBZ := Lib.hid hB2
    clear hX hY hZ hw HW HR HL hr1 hr2 hO2 hB2 b1
    go_region_held3 (fun w' => w'.cell? (ad.add k) = some (.int .i64 Z) ∧ Below W2.heap.size W2 w') (first | exact ⟨hzc2, (Below.refl _ W2).drew⟩ | exact ⟨by assumption, by assumption⟩ | go_keep)
      (first
        | (go_at_call 11; (with_reducible refine (C1 _ ?_).mono ?_); (first | assumption | exact ⟨by assumption, by assumption⟩); rintro e w' ⟨rfl, hq1, hq2⟩)
        | (go_at_call 11; (with_reducible refine (C2 _ ?_).mono ?_); (first | assumption | exact ⟨by assumption, by assumption⟩); rintro e w' ⟨rfl, hq1, hq2⟩)
        | (go_at_call 13; (with_reducible refine (C3 _ ?_).mono ?_); (first | assumption | exact ⟨by assumption, by assumption⟩); rintro e w' ⟨rfl, hq1, hq2⟩))
    go_wp2
    go_ret
    exact ⟨rfl, HBZ.out.trans (hq2.mono HBZ.out.size)⟩

set_option maxRecDepth 100000 in
theorem lifted (os : Os) (started : os.Started) (H0 : Type) (enc : TypeId × Value → H0) :
    ReturnsInHanded {} Try.checked os 6 .any (Rows.hashOneWordSpec.pre6 enc Try.prog Try.f6 Rows.hashOneWordRow.domain false) (Rows.hashOneWordSpec.post enc Try.prog Try.f6 false true false false) := by
  refine returnsInHanded_of_change_sized (C := Try.checked) H.own started (by kernel_rfl) Try.func6
    (ChangeSpec.witness6 (enc := enc) (C := Try.checked) false ⟨#[], #[.string ByteArray.empty, .slice none 0 0, .int .i64 0, .int .i64 0], []⟩ 8 (by kernel_rfl) (by kernel_rfl) (by kernel_rfl) (by kernel_rfl)) ?_
  intro W base args ds gs before hval0 hW hcnd hsz0 _
  have hsz : (DataW.weightsEach Try.prog (Try.f6.params.toList ++ Rows.hashOneWordSpec.plain.varTypes Try.prog) (ds ++ gs)).all (· ≤ reachBytes) = true := hsz0
  clear hsz0
  have hval : ∀ (j : Nat) t v, Try.f6.params[j]? = some t → args[j]? = some v → Value.okWide Try.prog W .any base t v := hval0
  have hW' := hW
  obtain ⟨p, q, hA0, hV, rfl, hfz, hnd⟩ := hW
  have hA : DataW.TrodAll enc Try.prog W 0 (fun _ => true) true Try.f6.params.toList args.toList ds p := hA0
  rw [Try.params6] at hA hval hsz
  obtain ⟨v0, vs0, d0, ds0, p0, q0, hargs, rfl, rfl, h0, r0⟩ := trodAll_cons hA
  obtain ⟨v1, vs1, d1, ds1, p1, q1, rfl, rfl, rfl, h1, r1⟩ := trodAll_cons r0
  obtain ⟨v2, vs2, d2, ds2, p2, q2, rfl, rfl, rfl, h2, r2⟩ := trodAll_cons r1
  obtain ⟨v3, vs3, d3, ds3, p3, q3, rfl, rfl, rfl, h3, r3⟩ := trodAll_cons r2
  obtain ⟨rfl, rfl, rfl⟩ := trodAll_nil r3
  obtain rfl : args = #[v0, v1, v2, v3] := by cases args; simp_all
  obtain ⟨rfl, rfl⟩ := trodVars_none hV
  obtain ⟨a0, rfl, rfl, rfl, w0⟩ := open_string Try.underlying9 (hval 0 9 v0 rfl rfl) h0
  obtain ⟨a1, n1, c1, rfl⟩ := okWide_slice Try.underlying22 (hval 1 22 v1 rfl rfl)
  have k1 := h1
  have lt1 : ∀ x ∈ p1, x.block < W.heap.size := by obtain ⟨m, hm⟩ := k1; exact DataW.trod_lt m _ _ _ hm
  obtain ⟨z1, l1, rd1, wf1, el1⟩ := H.open_lst Try.underlying22 Try.underlying3 (by kernel_rfl) h1
  have cp1 := H.open_cap Try.underlying22 Try.underlying3 (by kernel_rfl) k1
  obtain ⟨a2, rfl, rfl, rfl, w2⟩ := open_int Try.underlying3 (hval 2 3 v2 rfl rfl) h2
  obtain ⟨a3, rfl, rfl, rfl, w3⟩ := open_int Try.underlying3 (hval 3 3 v3 rfl rfl) h3
  clear hA0 hval0
  have r0 : a0.size ≤ 140737488351232 := by
    have h := sized_string hsz (j := 0) (t := 9) (bytes := a0.data.toList) rfl rfl
    have e : a0.data.toList.length = a0.size := by simp
    rw [e] at h
    simpa [reachBytes] using h
  have r1 : n1 * 8 ≤ 140737488351232 := by
    rcases el1 with h | ⟨es, sp, h, hle⟩
    · omega
    · have hr := sized_slice hsz (j := 1) (t := 22) (e := 3) (elems := es) (spare := sp) rfl (by simp [h]) Try.underlying22
      rw [H.bytesInt] at hr
      simp only [reachBytes] at hr
      omega
  refine (walk a0 a1 n1 c1 z1 a2 a3 W r0 r1 l1 rd1 wf1 cp1 w2 w3).mono fun e W' ⟨he, bel⟩ => ?_
  subst he
  exact ⟨_, rfl, _, _, _, [], _, [], hW', trodAll_mk1 (shut_bool Try.underlying4 _), (trodAll_cons_mk (shut_string Try.underlying9 w0) (trodAll_cons_mk (Below.trod H.laidOut (by kernel_rfl) (of_decide_eq_true (by kernel_rfl)) k1 bel lt1) (trodAll_cons_mk (shut_int Try.underlying3 w2) (trodAll_cons_mk (shut_int Try.underlying3 w3) trodAll_mk0)))), rfl, bel.frame _, fun h => by cases h⟩

/-- ████ THE STATEMENT ████ -/
theorem proved : Rows.HashOneWordSaid :=
  OpenClaim.holds_of_wide 6 Try.f6 rfl rfl rfl rfl rfl rfl rfl ⟨rfl, rfl, rfl, rfl, rfl⟩ rfl rfl rfl rfl rfl (by kernel_rfl) Try.func6 (by kernel_rfl)
    (of_decide_eq_true (by kernel_rfl)) (by unfold Func.isWrapper; first | (rw [if_pos (by decide +kernel)]; kernel_rfl) | (rw [if_neg (by decide +kernel)]; exact ⟨rfl, rfl⟩))
    (fun os started H0 enc _ => lifted os started H0 enc)
end Go.Proofs.Ytcgppbbpdnobfaa.hashOneWord
