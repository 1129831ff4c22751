/-
  HashParts (P1.1, P1.2, P1.4): for every key and byte slice of up to 40 bytes, Tag is the sum under the label tag of the key and of the numbers of which Bytes is the sum, and the chapter's examples hold; for every input, without a condition.
-/
import Derived.Test.YtcgppbbpdnobfaaHCopy
namespace Go.Proofs.Ytcgppbbpdnobfaa.hashParts
open Go.ChangeShapes Go.WideShapes Go.ChangeAt Go.RowKit
open Go.ChangeMaps (open_string shut_string)
set_option linter.unusedVariables false
theorem wrap_step {x y : Int} (hy : 0 ≤ y ∧ y < 256) : wrap64 (wrap64 (256 * wrap64 x) + y) = wrap64 (y + 256 * x) := by
  unfold wrap64
  omega
theorem drop_step {g : List Int} (hg : H.Byt g) (j : Nat) (hj : j < g.length) (y : Int) (hy : g[j] = y) :
    wrap64 (wrap64 (256 * wrap64 (H.le8 (g.drop (j + 1)))) + y) = wrap64 (H.le8 (g.drop j)) := by
  rw [List.drop_eq_getElem_cons hj, H.le8, hy]
  exact wrap_step (hg y (by rw [← hy]; exact List.getElem_mem _))
theorem wrap_nil : wrap64 (H.le8 []) = 0 := by
  unfold wrap64 H.le8
  omega
def lX : ByteArray := { data := #[120] }

set_option maxHeartbeats 1000000 in
theorem walk (a0 : Int) (a1 : Option Addr) (n1 c1 : Nat) (z1 : List Int) (w : World) (w0 : (Lit.int .u64 a0).wf = true) (r1 : n1 * 1 ≤ 140737488351232) (l1 : z1.length = n1) (rd1 : H.RdI w w.heap.size .u8 a1 z1) (wf1 : ∀ n ∈ z1, (Lit.int .u8 n).wf = true) (cp1 : n1 ≤ c1 ∧ c1 ≤ maxLen) :
    Calls Try.prog 10 #[.int .u64 a0, .slice a1 n1 c1] w fun e w' => e = .returned (.bool true) ∧ Below w.heap.size w w' := by
  have hbt := H.u8_byt wf1
  have hfew := H.few_any a1 n1 c1 40 z1 w l1 cp1.1 cp1.2 r1 (by omega) rd1
  obtain ⟨fs, hfs⟩ : ∃ fs, z1.take (min n1 40) = fs := ⟨_, rfl⟩
  obtain ⟨nf, hnf⟩ : ∃ nf, min n1 40 = nf := ⟨_, rfl⟩
  have hfl : fs.length = nf := by rw [← hfs, List.length_take, l1]; omega
  have hfb : H.Byt fs := fun b hb => hbt b (by rw [← hfs] at hb; exact List.mem_of_mem_take hb)
  have hn40 : nf ≤ 40 := by omega
  rw [hfs, hnf] at hfew
  clear hfs hnf wf1 l1 rd1 cp1 hbt w0 r1
  have HL := Lib.hid hfl
  have HB := Lib.hid hfb
  clear hfl hfb
  obtain ⟨i0, hi, hz0, hz1, hz2⟩ := info_parts H.infoI
  go_enter Try.func10, Try.ntmps10
  go_wp2_with fail
  refine hfew.mono ?_
  clear hfew
  rintro e w1 ⟨v, rfl, hown, b1⟩
  obtain ⟨A, c, rfl⟩ := H.own_shape hown
  have HO := Lib.hid hown
  clear hown
  go_wp2_with fail
  go_loopw [6, 7] (fun u i wr => ∃ k : Nat, 8 * k ≤ nf + 7 ∧ i = .int .i64 (8 * (k : Int)) ∧ wr.ownsRow w.heap.size 3 1 u k (H.vals [] (H.upto fs k)) ∧ wr.ownsRow w.heap.size 5 1 (.slice A nf c) nf (fs.map (Value.int .u8)) ∧ Below w.heap.size w wr) (fun _ i _ => nf - (intOf i).toNat)
  case atStart => exact ⟨0, by omega, rfl, World.ownsRow_nil _ _ _ _, HO.out, b1⟩
  case round =>
    obtain ⟨k, hk, rfl, hown, hof, hB⟩ := hrel
    have HF := Lib.hid hof
    clear hof HO
    by_cases hlt : 8 * k < nf
    · obtain ⟨wo, rfl⟩ : ∃ wo : World, wo = wr := ⟨_, rfl⟩
      have hlg : (H.grp fs k).length = min 8 (nf - 8 * k) := by rw [H.grp_length, HL.out]
      have HG := Lib.hid hlg
      clear hlg
      have HO := Lib.hid hown
      clear hown
      go_wp2
      all_goals
        go_loop [8, 9] (fun x i => ∃ j : Nat, j ≤ 8 ∧ 8 * k + j ≤ nf ∧ i = .int .i64 (8 * (k : Int) + j - 1) ∧ x = .int .i64 (wrap64 (H.le8 ((H.grp fs k).drop j)))) (fun _ i => (intOf i + 1).toNat)
        case atStart =>
          exact ⟨min 8 (nf - 8 * k), by omega, by omega, congrArg (Value.int .i64) (by omega), by rw [List.drop_of_length_le (by rw [HG.out]; exact Nat.le_refl _), wrap_nil]⟩
        case round =>
          obtain ⟨j, hj8, hjl, rfl, rfl⟩ := hrel
          generalize hX : wrap64 (H.le8 ((H.grp fs k).drop j)) = x
          have HX := Lib.hid hX
          clear hX
          cases j with
          | succ m =>
            have e0 : (8 * (k : Int) + ((m + 1 : Nat) : Int) - 1) = 8 * (k : Int) + m := by omega
            rw [e0]
            clear e0
            obtain ⟨ad, rfl, hblk, hx⟩ := (H.own_RdI HF.out) (8 * k + m) (by rw [HL.out]; omega)
            have hm : m < (H.grp fs k).length := by rw [HG.out]; omega
            have hz : (H.grp fs k)[m] = fs[8 * k + m]?.getD 0 := H.grp_get _ _ _ hm
            generalize fs[8 * k + m]?.getD 0 = y at hx hz
            have hy := H.grp_byt HB.out k y (by rw [← hz]; exact List.getElem_mem _)
            obtain ⟨hy0, hy1⟩ := hy
            have HZ := Lib.hid hz
            clear hz
            go_wp2
            go_round
            case rel =>
              refine ⟨m, by omega, by omega, rfl, ?_⟩
              rw [← HX.out]
              exact congrArg (Value.int .i64) (drop_step (H.grp_byt HB.out k) m hm y HZ.out)
            case measure => simp [intOf]; omega
          | zero =>
            have hown := HO.out
            go_wp2_with (at_builtin; refine wpList_append_own _ rfl _ _ 22 rfl w.heap.size 3 i0 (.int .i64 0) 1 8 Try.underlying22 hi hz0 hz1 hz2 rfl (by decide) _ _ _ rfl (hown.alloc _) ⟨wo.heap.size, 0, none⟩ 1 1 [.int .i64 x] rfl rfl (cell_one_new _ _ _) (by simp [Value.oneCell']) (by unfold maxLen; omega) (by omega) (by have := hB.size; simp; omega) ?_; intro v' w1 hown' hgrow _)
            refine ⟨⟨k + 1, by omega, congrArg (Value.int .i64) (by omega), ?_, H.own_step HF.out hown (by decide) hgrow, hB.trans (H.own_below hB.size hown hgrow)⟩, by simp [intOf]; omega⟩
            rw [H.upto_succ, H.vals_snoc]
            have e : wrap64 (H.le8 (H.grp fs k)) = x := HX.out
            rw [e]
            exact hown'
    · obtain rfl : k = H.nw nf := by unfold H.nw; omega
      have hnw : H.nw nf * 8 ≤ nf + 7 := by unfold H.nw; omega
      have hbz := hB.size
      have hup : H.upto fs (H.nw nf) = H.words fs := by rw [← HL.out]; exact H.upto_all fs
      rw [hup] at hown
      clear hup
      have hlw : (H.words fs).length = H.nw nf := by rw [H.words_length, HL.out]
      have HLW := Lib.hid hlw
      clear hlw
      generalize hkk : H.nw nf = kk at hown hnw HLW hk hlt ⊢
      have HKK := Lib.hid hkk
      clear hkk
      go_wp2_with (at_builtin; refine wpList_append_own _ rfl _ _ 22 rfl w.heap.size 3 i0 (.int .i64 0) 1 8 Try.underlying22 hi hz0 hz1 hz2 rfl (by decide) _ _ _ rfl (hown.alloc _) ⟨wr.heap.size, 0, none⟩ 1 1 [.int .i64 nf] rfl rfl (cell_one_new _ _ _) (by simp [Value.oneCell']) (by unfold maxLen; omega) (by omega) (by simp; omega) ?_; intro v' w2 hown' hgrow _; obtain ⟨g, c', rfl⟩ := ownsRow_succ hown')
      have hof := H.own_step HF.out hown (by decide) hgrow
      have hB2 := hB.trans (H.own_below hbz hown hgrow)
      rw [H.vals_eq] at hown'
      have HOF := Lib.hid hof
      have HOL := Lib.hid hown'
      clear hown hown' hof
      have hzl : ([] ++ (H.words fs).map wrap64 ++ [(nf : Int)]).length = kk + 1 := by simp [HLW.out]
      have HZL := Lib.hid hzl
      clear hzl
      refine (H.bytes_any lX A nf c fs w2 (by decide) HB.out HL.out (by omega) (H.own_RdI HOF.out)).mono ?_
      rintro e w3 ⟨rfl, b3⟩
      go_wp2_with fail
      refine (H.sum_any lX (some ⟨g, 0, none⟩) (kk + 1) c' ([] ++ (H.words fs).map wrap64 ++ [(nf : Int)]) w3 (by decide) HZL.out (by omega) (((H.own_RdI HOL.out).below b3).more b3.size)).mono ?_
      rw [H.bytesI_eq _ _ _ HL.out]
      rintro e w4 ⟨rfl, b4⟩
      have b34 := b3.trans (b4.mono b3.size)
      go_wp2_with fail
      refine (H.tag_any a0 A nf c fs w4 HB.out HL.out (by omega) (((H.own_RdI HOF.out).below b34).more b34.size)).mono ?_
      rintro e w5 ⟨rfl, b5⟩
      have b35 := b34.trans (b5.mono b34.size)
      have hlit : Below w5.heap.size w5 (w5.alloc (.cells #[.int .i64 (wrap64 a0)] 3)) := (Below.refl _ w5).alloc (Nat.le_refl _) _
      have hol := World.ownsRow_lit (base := w5.heap.size) (e := 3) (size := 1) w5 #[.int .i64 (wrap64 a0)] 1 (Nat.le_refl _) (by unfold maxLen; omega) (by simp)
      have hnews := (((H.own_RdI HOL.out).below (b35.trans (hlit.mono b35.size)))).news (kk + 1)
      rw [List.take_of_length_le (by rw [HZL.out]; exact Nat.le_refl _)] at hnews
      have hnl : (([] ++ (H.words fs).map wrap64 ++ [(nf : Int)]).map (Value.int .i64)).length = kk + 1 := by rw [List.length_map]; exact HZL.out
      have HNL := Lib.hid hnl
      have HNW := Lib.hid hnews
      have HOLT := Lib.hid hol
      clear hnl hnews hol
      have hkb : kk ≤ 6 := by omega
      go_wp2_with (at_builtin; refine H.wpList_unguard (by rfl) ?_; refine wpList_append_own _ rfl _ _ 22 rfl w5.heap.size 3 i0 (.int .i64 0) 1 8 Try.underlying22 hi hz0 hz1 hz2 rfl (by decide) (.slice (some ⟨w5.heap.size, 0, none⟩) 1 1) 1 [.int .i64 (wrap64 a0)] rfl HOLT.out ⟨g, 0, none⟩ (kk + 1) c' (([] ++ (H.words fs).map wrap64 ++ [(nf : Int)]).map (Value.int .i64)) rfl (by rw [HNL.out]; omega) HNW.out (H.one_cells _ _) (by unfold maxLen; omega) (by omega) (by simp) ?_; intro v6 w6 hown6 hgrow6 _; obtain ⟨g6, c6, rfl, hg61, hg62⟩ := H.own_form hown6 (by omega))
      have b6 : Below w5.heap.size w5 w6 := hlit.grown hgrow6 (by simp) (fun j e => by cases e; exact Nat.le_refl _)
      have hm6 : [.int .i64 (wrap64 a0)] ++ ([] ++ (H.words fs).map wrap64 ++ [(nf : Int)]).map (Value.int .i64) = ([wrap64 a0] ++ (H.words fs).map wrap64 ++ [(nf : Int)]).map (Value.int .i64) := by simp
      rw [hm6] at hown6
      clear hm6
      refine (H.sum_any H.tagB (some ⟨g6, 0, none⟩) (1 + (kk + 1)) c6 ([wrap64 a0] ++ (H.words fs).map wrap64 ++ [(nf : Int)]) w6 (by decide) (by simp [HLW.out]; omega) (by omega) (H.own_RdI hown6)).mono ?_
      rw [H.tagI_eq _ _ _ HL.out]
      rintro e w7 ⟨rfl, b7⟩
      have b57 := b6.trans (b7.mono b6.size)
      have b37 := b35.trans (b57.mono b35.size)
      clear hown6 hgrow6 HNW HNL HOLT hlit b6 b7 b57 b35
      go_wp2_with fail
      refine (H.lives_any w7).mono ?_
      rintro e w8 ⟨rfl, b8⟩
      have b38 := b37.trans (b8.mono b37.size)
      go_wp2_with fail
      go_ret
      exact ⟨rfl, hB2.trans (b38.mono hB2.size)⟩

set_option maxRecDepth 100000 in
theorem lifted (os : Os) (started : os.Started) (H0 : Type) (enc : TypeId × Value → H0) :
    ReturnsInHanded {} Try.checked os 10 .any (Rows.hashPartsSpec.pre6 enc Try.prog Try.f10 Rows.hashPartsRow.domain false) (Rows.hashPartsSpec.post enc Try.prog Try.f10 false true false false) := by
  refine returnsInHanded_of_change_sized (C := Try.checked) H.own started (by kernel_rfl) Try.func10
    (ChangeSpec.witness6 (enc := enc) (C := Try.checked) false ⟨#[], #[.int .u64 0, .slice none 0 0], []⟩ 8 (by kernel_rfl) (by kernel_rfl) (by kernel_rfl) (by kernel_rfl)) ?_
  intro W base args ds gs before hval0 hW hcnd hsz0 _
  have hsz : (DataW.weightsEach Try.prog (Try.f10.params.toList ++ Rows.hashPartsSpec.plain.varTypes Try.prog) (ds ++ gs)).all (· ≤ reachBytes) = true := hsz0
  clear hsz0
  have hval : ∀ (j : Nat) t v, Try.f10.params[j]? = some t → args[j]? = some v → Value.okWide Try.prog W .any base t v := hval0
  have hW' := hW
  obtain ⟨p, q, hA0, hV, rfl, hfz, hnd⟩ := hW
  have hA : DataW.TrodAll enc Try.prog W 0 (fun _ => true) true Try.f10.params.toList args.toList ds p := hA0
  rw [Try.params10] at hA hval hsz
  obtain ⟨v0, vs0, d0, ds0, p0, q0, hargs, rfl, rfl, h0, r0⟩ := trodAll_cons hA
  obtain ⟨v1, vs1, d1, ds1, p1, q1, rfl, rfl, rfl, h1, r1⟩ := trodAll_cons r0
  obtain ⟨rfl, rfl, rfl⟩ := trodAll_nil r1
  obtain rfl : args = #[v0, v1] := by cases args; simp_all
  obtain ⟨rfl, rfl⟩ := trodVars_none hV
  obtain ⟨a0, rfl, rfl, rfl, w0⟩ := open_int Try.underlying23 (hval 0 23 v0 rfl rfl) h0
  obtain ⟨a1, n1, c1, rfl⟩ := okWide_slice Try.underlying28 (hval 1 28 v1 rfl rfl)
  have k1 := h1
  have lt1 : ∀ x ∈ p1, x.block < W.heap.size := by obtain ⟨m, hm⟩ := k1; exact DataW.trod_lt m _ _ _ hm
  obtain ⟨z1, l1, rd1, wf1, el1⟩ := H.open_lst Try.underlying28 Try.underlying5 (by kernel_rfl) h1
  have cp1 := H.open_cap Try.underlying28 Try.underlying5 (by kernel_rfl) k1
  clear hA0 hval0
  have r1 : n1 * 1 ≤ 140737488351232 := by
    rcases el1 with h | ⟨es, sp, h, hle⟩
    · omega
    · have hr := sized_slice hsz (j := 1) (t := 28) (e := 5) (elems := es) (spare := sp) rfl (by simp [h]) Try.underlying28
      rw [H.bytesU8] at hr
      simp only [reachBytes] at hr
      omega
  refine (walk a0 a1 n1 c1 z1 W w0 r1 l1 rd1 wf1 cp1).mono fun e W' ⟨he, bel⟩ => ?_
  subst he
  exact ⟨_, rfl, _, _, _, [], _, [], hW', trodAll_mk1 (shut_bool Try.underlying4 _), (trodAll_cons_mk (shut_int Try.underlying23 w0) (trodAll_cons_mk (Below.trod H.laidOut (by kernel_rfl) (of_decide_eq_true (by kernel_rfl)) k1 bel lt1) trodAll_mk0)), rfl, bel.frame _, fun h => by cases h⟩

/-- ████ THE STATEMENT ████ -/
theorem proved : Rows.HashPartsSaid :=
  OpenClaim.holds_of_wide 10 Try.f10 rfl rfl rfl rfl rfl rfl rfl ⟨rfl, rfl, rfl, rfl, rfl⟩ rfl rfl rfl rfl rfl (by kernel_rfl) Try.func10 (by kernel_rfl)
    (of_decide_eq_true (by kernel_rfl)) (by unfold Func.isWrapper; first | (rw [if_pos (by decide +kernel)]; kernel_rfl) | (rw [if_neg (by decide +kernel)]; exact ⟨rfl, rfl⟩))
    (fun os started H0 enc _ => lifted os started H0 enc)
end Go.Proofs.Ytcgppbbpdnobfaa.hashParts
