/-
  HashOneGroup (P1.5): for every label, key and byte slice, changing bytes of a single group of 8 bytes changes the hash and the tag, and the chapter's examples hold; for every input, without a condition.
-/
import Derived.Test.YtcgppbbpdnobfaaHGroup
import Derived.RegionTactic
import Derived.ChangeAlike
namespace Go.Proofs.Ytcgppbbpdnobfaa.hashOneGroup
open Go.ChangeShapes Go.WideShapes Go.ChangeAt Go.RowKit
open Go.ChangeMaps (open_string shut_string)
set_option linter.unusedVariables false
theorem u8_range {a : Int} (h : (Lit.int .u8 a).wf = true) : 0 ≤ a ∧ a < 256 := by
  simp [Lit.wf, IntKind.min, IntKind.max, IntKind.signed, IntKind.bits] at h
  omega
theorem byt_set {zs : List Int} (h : H.Byt zs) (m : Nat) (x : Int) (hx : 0 ≤ x ∧ x < 256) : H.Byt (zs.set m x) := by
  intro b hb
  rcases List.mem_or_eq_of_mem_set hb with h1 | h1
  · exact h b h1
  · rw [h1]; exact hx

set_option maxRecDepth 100000 in
set_option maxHeartbeats 1000000 in
theorem walk (a0 : ByteArray) (a1 : Int) (a2 : Option Addr) (n2 c2 : Nat) (z2 : List Int) (a3 : Int) (y4_0 y4_1 y4_2 y4_3 y4_4 y4_5 y4_6 y4_7 : Int) (w : World) (r0 : a0.size ≤ 140737488351232) (w1 : (Lit.int .u64 a1).wf = true) (r2 : n2 * 1 ≤ 140737488351232) (l2 : z2.length = n2) (rd2 : H.RdI w w.heap.size .u8 a2 z2) (wf2 : ∀ n ∈ z2, (Lit.int .u8 n).wf = true) (cp2 : n2 ≤ c2 ∧ c2 ≤ maxLen) (w3 : (Lit.int .i64 a3).wf = true) (wf4_0 : (Lit.int .u8 y4_0).wf = true) (wf4_1 : (Lit.int .u8 y4_1).wf = true) (wf4_2 : (Lit.int .u8 y4_2).wf = true) (wf4_3 : (Lit.int .u8 y4_3).wf = true) (wf4_4 : (Lit.int .u8 y4_4).wf = true) (wf4_5 : (Lit.int .u8 y4_5).wf = true) (wf4_6 : (Lit.int .u8 y4_6).wf = true) (wf4_7 : (Lit.int .u8 y4_7).wf = true) :
    Calls Try.prog 7 #[.string a0, .int .u64 a1, .slice a2 n2 c2, .int .i64 a3, .agg #[.int .u8 y4_0, .int .u8 y4_1, .int .u8 y4_2, .int .u8 y4_3, .int .u8 y4_4, .int .u8 y4_5, .int .u8 y4_6, .int .u8 y4_7]] w fun e w' => e = .returned (.bool true) ∧ Below w.heap.size w w' := by
  have hbt := H.u8_byt wf2
  by_cases h0 : n2 = 0
  · subst h0
    clear rd2 wf2 w3 w1 wf4_0 wf4_1 wf4_2 wf4_3 wf4_4 wf4_5 wf4_6 wf4_7 hbt
    go_enter Try.func7, Try.ntmps7
    go_wp2_with fail
    refine (H.lives_any _).mono ?_
    rintro e w1 ⟨rfl, b1⟩
    go_wp2_with fail
    go_ret
    exact ⟨rfl, ((Below.refl _ w).alloc (Nat.le_refl _) _).trans (b1.mono (by simp))⟩
  · obtain ⟨ys, hys⟩ : ∃ ys : List Int, [y4_0, y4_1, y4_2, y4_3, y4_4, y4_5, y4_6, y4_7] = ys := ⟨_, rfl⟩
    have hyl : ys.length = 8 := by rw [← hys]; rfl
    have hyb : H.Byt ys := by
      rw [← hys]
      intro b hb
      simp only [List.mem_cons, List.not_mem_nil, or_false] at hb
      rcases hb with rfl | rfl | rfl | rfl | rfl | rfl | rfl | rfl <;> exact u8_range (by assumption)
    have hB0 : Below w.heap.size w (w.alloc (.cells #[.int .u8 y4_0, .int .u8 y4_1, .int .u8 y4_2, .int .u8 y4_3, .int .u8 y4_4, .int .u8 y4_5, .int .u8 y4_6, .int .u8 y4_7] 37)) := (Below.refl _ w).alloc (Nat.le_refl _) _
    have hbox := H.RdI_lit w .u8 37 #[.int .u8 y4_0, .int .u8 y4_1, .int .u8 y4_2, .int .u8 y4_3, .int .u8 y4_4, .int .u8 y4_5, .int .u8 y4_6, .int .u8 y4_7] ys (by rw [← hys]; rfl)
    have hsz0 : (w.alloc (.cells #[.int .u8 y4_0, .int .u8 y4_1, .int .u8 y4_2, .int .u8 y4_3, .int .u8 y4_4, .int .u8 y4_5, .int .u8 y4_6, .int .u8 y4_7] 37)).heap.size = w.heap.size + 1 := by simp
    generalize hw0 : w.alloc (.cells #[.int .u8 y4_0, .int .u8 y4_1, .int .u8 y4_2, .int .u8 y4_3, .int .u8 y4_4, .int .u8 y4_5, .int .u8 y4_6, .int .u8 y4_7] 37) = w0 at hB0 hbox hsz0
    have HW0 := Lib.hid hw0
    have HBX := Lib.hid hbox
    have HYL := Lib.hid hyl
    have HYB := Lib.hid hyb
    obtain ⟨r, hr0, hr1, har⟩ := H.around_any a3 n2 w3 (by omega) (by omega)
    obtain ⟨r, rfl⟩ := Int.eq_ofNat_of_zero_le hr0
    have hfew := H.few_any a2 n2 c2 n2 z2 w0 l2 cp2.1 cp2.2 r2 (by omega) ((rd2.below hB0).more hB0.size)
    rw [Nat.min_self, List.take_of_length_le (by omega)] at hfew
    have HL := Lib.hid l2
    have HR := Lib.hid rd2
    have HB := Lib.hid hbt
    have HSZ := Lib.hid hsz0
    clear hw0 hbox hyl hyb hys l2 rd2 wf2 hbt w3 w1 wf4_0 wf4_1 wf4_2 wf4_3 wf4_4 wf4_5 wf4_6 wf4_7 cp2 hsz0
    go_enter Try.func7, Try.ntmps7
    go_wp2_with fail
    rw [HW0.out]
    refine (har w0).mono ?_
    clear har
    rintro e w' ⟨rfl, rfl⟩
    go_wp2_with fail
    refine hfew.mono ?_
    clear hfew
    rintro e w1 ⟨v, rfl, hown, b1⟩
    obtain ⟨g, c, rfl, hg1, hg2⟩ := H.own_form hown (by omega)
    have HO := Lib.hid hown
    clear hown
    go_wp2_with fail
    obtain ⟨q, hq⟩ : ∃ q : Nat, r / 8 = q := ⟨_, rfl⟩
    have e8 : (r : Int) / 8 * 8 = 8 * (q : Int) := by omega
    rw [e8]
    have hqn : 8 * q < n2 := by omega
    clear e8 hq hr0 hr1
    have hB1 : Below w0.heap.size w0 w1 := b1
    go_loopw [13] (fun i wr => ∃ (j : Nat) (os : List Int), j ≤ 8 ∧ i = .int .i64 j ∧ H.OneGrp q z2 os ∧ H.Byt os ∧ wr.ownsRow w0.heap.size 5 1 (.slice (some ⟨g, 0, none⟩) n2 c) n2 (os.map (Value.int .u8)) ∧ Below w0.heap.size w0 wr) (fun i _ => 8 - (intOf i).toNat)
    case atStart => exact ⟨0, z2, by omega, rfl, H.OneGrp.refl _ _, HB.out, HO.out, b1⟩
    case round =>
      obtain ⟨j, os, hj, rfl, hgrp, hob, hown, hB⟩ := hrel
      have HGR := Lib.hid hgrp
      have HOB := Lib.hid hob
      have HOW := Lib.hid hown
      clear hgrp hob hown HO b1 hB1
      by_cases hlt : j < 8 ∧ 8 * q + j < n2
      · obtain ⟨hj1, hj2⟩ := hlt
        have hol : os.length = n2 := by rw [HGR.out.1, HL.out]
        have hc1 := HOW.out.cellAt (8 * q + j) (by omega)
        obtain ⟨X, hX⟩ : ∃ X, os[8 * q + j]? = some X := ⟨_, List.getElem?_eq_getElem (by rw [hol]; exact hj2)⟩
        rw [List.getElem?_map, hX, Option.map_some] at hc1
        have hf1 := HOW.out.frozenAt (8 * q + j)
        have hc2 : wr.cell? ⟨w.heap.size, j, none⟩ = some (.int .u8 (ys[j]?.getD 0)) := by
          obtain ⟨ad, e, hb, hx⟩ := HBX.out.below hB j (by rw [HYL.out]; exact hj1)
          cases e
          rw [← hx]
          congr 1
          unfold Addr.add
          split <;> simp_all
        generalize hY : ys[j]?.getD 0 = Y at hc2
        have HX := Lib.hid hX
        have HY := Lib.hid hY
        have HOL := Lib.hid hol
        clear hX hY hol
        go_wp2_with fail
        have hj0 : (0 : Int) ≤ (j : Int) := by omega
        have hj8 : (j : Int) < 8 := by omega
        have hk0 : (0 : Int) ≤ 8 * (q : Int) + (j : Int) := by omega
        have hk1 : 8 * (q : Int) + (j : Int) < (n2 : Int) := by omega
        go_region
        have hst := (HOW.out.stored (8 * q + j) (.int .u8 (bits BinOp.xor IntKind.u8 X Y))).1
        have hbs := hB.setCell (p := ⟨g, 8 * q + j, none⟩) hg1 (.int .u8 (bits BinOp.xor IntKind.u8 X Y))
        rw [← List.map_set] at hst
        have hxr := u8_range (wf_bits BinOp.xor .u8 X Y)
        generalize bits BinOp.xor IntKind.u8 X Y = Z at hst hbs hxr
        have HST := Lib.hid hst
        have HBS := Lib.hid hbs
        clear hst hbs
        go_wp2
        go_roundw
        case rel => exact ⟨j + 1, os.set (8 * q + j) Z, by omega, by go_num, HGR.out.set _ (by omega) _, byt_set HOB.out _ _ hxr, HST.out.drew, HBS.out.drew⟩
        case measure => simp [intOf]; omega
      · have hol : os.length = n2 := by rw [HGR.out.1, HL.out]
        have hqw : q < H.nw z2.length := by rw [HL.out]; exact H.nw_lt hqn
        have hro := H.own_RdI HOW.out
        have hBw := hB0.trans (hB.mono hB0.size)
        have hrz := (HR.out.below hBw).more hBw.size
        have hsame := H.same_any a2 (some ⟨g, 0, none⟩) n2 n2 c2 c z2 os wr.heap.size wr.heap.size wr HB.out HOB.out HL.out hol hrz hro
        have f1 : (H.bytesI (H.bytesOf a0) z2 == H.bytesI (H.bytesOf a0) os) = decide (z2 = os) := by
          rw [Bool.eq_iff_iff, beq_iff_eq, decide_eq_true_eq, eq_comm, HGR.out.bytes HB.out HOB.out hqw, eq_comm]
        have f2 : (H.tagI a1 z2 == H.tagI a1 os) = decide (z2 = os) := by
          rw [Bool.eq_iff_iff, beq_iff_eq, decide_eq_true_eq, eq_comm, HGR.out.tag HB.out HOB.out hqw, eq_comm]
        have C1 := fun W' (hb : Below wr.heap.size wr W') => H.bytes_any a0 a2 n2 c2 z2 W' r0 HB.out HL.out (by omega) ((hrz.below hb).more hb.size)
        have C2 := fun W' (hb : Below wr.heap.size wr W') => H.bytes_any a0 (some ⟨g, 0, none⟩) n2 c os W' r0 HOB.out hol (by omega) ((hro.below hb).more hb.size)
        have C3 := fun W' (hb : Below wr.heap.size wr W') => H.tag_any a1 a2 n2 c2 z2 W' HB.out HL.out (by omega) ((hrz.below hb).more hb.size)
        have C4 := fun W' (hb : Below wr.heap.size wr W') => H.tag_any a1 (some ⟨g, 0, none⟩) n2 c os W' HOB.out hol (by omega) ((hro.below hb).more hb.size)
        generalize decide (z2 = os) = sm at hsame f1 f2
        generalize H.bytesI (H.bytesOf a0) z2 = X1 at f1 C1
        generalize H.bytesI (H.bytesOf a0) os = X2 at f1 C2
        generalize H.tagI a1 z2 = T1 at f2 C3
        generalize H.tagI a1 os = T2 at f2 C4
        have D1 := Lib.hid C1
        have D2 := Lib.hid C2
        have D3 := Lib.hid C3
        have D4 := Lib.hid C4
        clear C1 C2 C3 C4 hro hrz hol hqw HW0 HBX HYL HYB HL HR HB HSZ HGR HOB HOW
        have hj8 : (j < 8 ∧ ¬ 8 * q + j < n2) ∨ ¬ j < 8 := by omega
        clear hlt
        rcases hj8 with ⟨hj8, hnk⟩ | hj8
        all_goals
          go_wp2_with fail
          refine hsame.mono ?_
          rintro e w' ⟨rfl, rfl⟩
          go_wp2_with fail
          refine (D1.out wr (Below.refl _ _)).mono ?_
          rintro e w2 ⟨rfl, b2⟩
          go_wp2_with fail
          refine (D2.out w2 b2).mono ?_
          rintro e w3 ⟨rfl, b3⟩
          have b23 := b2.trans (b3.mono b2.size)
          go_wp2_with fail
          refine (D3.out w3 b23).mono ?_
          rintro e w4 ⟨rfl, b4⟩
          have b24 := b23.trans (b4.mono b23.size)
          go_wp2_with fail
          refine (D4.out w4 b24).mono ?_
          rintro e w5 ⟨rfl, b5⟩
          have b25 := b24.trans (b5.mono b24.size)
          go_wp2_with fail
          refine (H.lives_any w5).mono ?_
          rintro e w6 ⟨rfl, b6⟩
          have b26 := b25.trans (b6.mono b25.size)
          go_wp2_with fail
          go_ret
          exact ⟨rfl, hBw.trans (b26.mono hBw.size)⟩

set_option maxRecDepth 100000 in
theorem lifted (os : Os) (started : os.Started) (H0 : Type) (enc : TypeId × Value → H0) :
    ReturnsInHanded {} Try.checked os 7 .any (Rows.hashOneGroupSpec.pre6 enc Try.prog Try.f7 Rows.hashOneGroupRow.domain false) (Rows.hashOneGroupSpec.post enc Try.prog Try.f7 false true false false) := by
  refine returnsInHanded_of_change_sized (C := Try.checked) H.own started (by kernel_rfl) Try.func7
    (ChangeSpec.witness6 (enc := enc) (C := Try.checked) false ⟨#[], #[.string ByteArray.empty, .int .u64 0, .slice none 0 0, .int .i64 0, .agg #[.int .u8 0, .int .u8 0, .int .u8 0, .int .u8 0, .int .u8 0, .int .u8 0, .int .u8 0, .int .u8 0]], []⟩ 8 (by kernel_rfl) (by kernel_rfl) (by kernel_rfl) (by kernel_rfl)) ?_
  intro W base args ds gs before hval0 hW hcnd hsz0 _
  have hsz : (DataW.weightsEach Try.prog (Try.f7.params.toList ++ Rows.hashOneGroupSpec.plain.varTypes Try.prog) (ds ++ gs)).all (· ≤ reachBytes) = true := hsz0
  clear hsz0
  have hval : ∀ (j : Nat) t v, Try.f7.params[j]? = some t → args[j]? = some v → Value.okWide Try.prog W .any base t v := hval0
  have hW' := hW
  obtain ⟨p, q, hA0, hV, rfl, hfz, hnd⟩ := hW
  have hA : DataW.TrodAll enc Try.prog W 0 (fun _ => true) true Try.f7.params.toList args.toList ds p := hA0
  rw [Try.params7] at hA hval hsz
  obtain ⟨v0, vs0, d0, ds0, p0, q0, hargs, rfl, rfl, h0, r0⟩ := trodAll_cons hA
  obtain ⟨v1, vs1, d1, ds1, p1, q1, rfl, rfl, rfl, h1, r1⟩ := trodAll_cons r0
  obtain ⟨v2, vs2, d2, ds2, p2, q2, rfl, rfl, rfl, h2, r2⟩ := trodAll_cons r1
  obtain ⟨v3, vs3, d3, ds3, p3, q3, rfl, rfl, rfl, h3, r3⟩ := trodAll_cons r2
  obtain ⟨v4, vs4, d4, ds4, p4, q4, rfl, rfl, rfl, h4, r4⟩ := trodAll_cons r3
  obtain ⟨rfl, rfl, rfl⟩ := trodAll_nil r4
  obtain rfl : args = #[v0, v1, v2, v3, v4] := by cases args; simp_all
  obtain ⟨rfl, rfl⟩ := trodVars_none hV
  obtain ⟨a0, rfl, rfl, rfl, w0⟩ := open_string Try.underlying9 (hval 0 9 v0 rfl rfl) h0
  obtain ⟨a1, rfl, rfl, rfl, w1⟩ := open_int Try.underlying23 (hval 1 23 v1 rfl rfl) h1
  obtain ⟨a2, n2, c2, rfl⟩ := okWide_slice Try.underlying28 (hval 2 28 v2 rfl rfl)
  have k2 := h2
  have lt2 : ∀ x ∈ p2, x.block < W.heap.size := by obtain ⟨m, hm⟩ := k2; exact DataW.trod_lt m _ _ _ hm
  obtain ⟨z2, l2, rd2, wf2, el2⟩ := H.open_lst Try.underlying28 Try.underlying5 (by kernel_rfl) h2
  have cp2 := H.open_cap Try.underlying28 Try.underlying5 (by kernel_rfl) k2
  obtain ⟨a3, rfl, rfl, rfl, w3⟩ := open_int Try.underlying3 (hval 3 3 v3 rfl rfl) h3
  have k4 := h4
  have lt4 : ∀ x ∈ p4, x.block < W.heap.size := by obtain ⟨m, hm⟩ := k4; exact DataW.trod_lt m _ _ _ hm
  obtain ⟨y4_0, y4_1, y4_2, y4_3, y4_4, y4_5, y4_6, y4_7, rfl, wf4_0, wf4_1, wf4_2, wf4_3, wf4_4, wf4_5, wf4_6, wf4_7⟩ := H.open_arr8 (hval 4 37 v4 rfl rfl) h4
  clear hA0 hval0
  have r0 : a0.size ≤ 140737488351232 := by
    have h := sized_string hsz (j := 0) (t := 9) (bytes := a0.data.toList) rfl rfl
    have e : a0.data.toList.length = a0.size := by simp
    rw [e] at h
    simpa [reachBytes] using h
  have r2 : n2 * 1 ≤ 140737488351232 := by
    rcases el2 with h | ⟨es, sp, h, hle⟩
    · omega
    · have hr := sized_slice hsz (j := 2) (t := 28) (e := 5) (elems := es) (spare := sp) rfl (by simp [h]) Try.underlying28
      rw [H.bytesU8] at hr
      simp only [reachBytes] at hr
      omega
  refine (walk a0 a1 a2 n2 c2 z2 a3 y4_0 y4_1 y4_2 y4_3 y4_4 y4_5 y4_6 y4_7 W r0 w1 r2 l2 rd2 wf2 cp2 w3 wf4_0 wf4_1 wf4_2 wf4_3 wf4_4 wf4_5 wf4_6 wf4_7).mono fun e W' ⟨he, bel⟩ => ?_
  subst he
  exact ⟨_, rfl, _, _, _, [], _, [], hW', trodAll_mk1 (shut_bool Try.underlying4 _), (trodAll_cons_mk (shut_string Try.underlying9 w0) (trodAll_cons_mk (shut_int Try.underlying23 w1) (trodAll_cons_mk (Below.trod H.laidOut (by kernel_rfl) (of_decide_eq_true (by kernel_rfl)) k2 bel lt2) (trodAll_cons_mk (shut_int Try.underlying3 w3) (trodAll_cons_mk (Below.trod H.laidOut (by kernel_rfl) (of_decide_eq_true (by kernel_rfl)) k4 bel lt4) trodAll_mk0))))), rfl, bel.frame _, fun h => by cases h⟩

/-- ████ THE STATEMENT ████ -/
theorem proved : Rows.HashOneGroupSaid :=
  OpenClaim.holds_of_wide 7 Try.f7 rfl rfl rfl rfl rfl rfl rfl ⟨rfl, rfl, rfl, rfl, rfl⟩ rfl rfl rfl rfl rfl (by kernel_rfl) Try.func7 (by kernel_rfl)
    (of_decide_eq_true (by kernel_rfl)) (by unfold Func.isWrapper; first | (rw [if_pos (by decide +kernel)]; kernel_rfl) | (rw [if_neg (by decide +kernel)]; exact ⟨rfl, rfl⟩))
    (fun os started H0 enc _ => lifted os started H0 enc)
end Go.Proofs.Ytcgppbbpdnobfaa.hashOneGroup
