/-
  For every byte slice and all two numbers, CrcTwoBits returns true: if one bit of the sealed slice of at most 1000 bytes, or two different ones, are inverted, Open returns ErrSum; the same bit inverted twice opens.
-/
import Derived.Test.YtpkhbglmbdpodaaDoorCProg
import Derived.Deep.DeepCutAuto
import Derived.Deep.RegionHeld3
import Derived.Deep.LoopGhost
import Derived.Deep.QuietTactic
import Derived.Test.YtpkhbglmbdpodaaDoorApp
namespace Go.Proofs.YtpkhbglmbdpodaaDoor.crcTwoBits
open Go.ChangeShapes Go.WideShapes Go.ChangeAt Go.RowKit
open Go.ChangeMaps (open_string shut_string)
set_option linter.unusedVariables false

set_option maxRecDepth 100000 in
set_option maxHeartbeats 1000000 in
theorem walk (a0 : Option Addr) (n0 c0 : Nat) (z0 : List Int) (a1 : Int) (a2 : Int) (w : World) (tb : C.Tab w) (l0 : z0.length = n0) (cp0 : n0 ≤ c0 ∧ c0 ≤ maxLen) (nz0 : a0 = none → c0 = 0) (rd0 : H.RdI w w.heap.size .u8 a0 z0) (wf0 : ∀ n ∈ z0, (Lit.int .u8 n).wf = true) (r0 : z0.length * 1 ≤ 140737488351232) (w1 : (Lit.int .u16 a1).wf = true) (w2 : (Lit.int .u16 a2).wf = true) :
    Calls Tryd.prog 9 #[.slice a0 n0 c0, .int .u16 a1, .int .u16 a2] w fun e w' => e = .returned (.bool true) ∧ Below w.heap.size w w' := by
  have hb := H.u8_byt wf0
  have q1 := C.u16_range w1
  have q2 := C.u16_range w2
  obtain ⟨i1, rfl⟩ : ∃ i : Nat, a1 = i := ⟨a1.toNat, by omega⟩
  obtain ⟨i2, rfl⟩ : ∃ i : Nat, a2 = i := ⟨a2.toNat, by omega⟩
  have TB := Lib.hid tb
  have HL := Lib.hid l0
  have HB := Lib.hid hb
  have HR := Lib.hid rd0
  have HC := Lib.hid cp0
  have HN := Lib.hid nz0
  have hpos := tb.pos
  obtain ⟨S, hS⟩ : ∃ S, C.sea z0 = S := ⟨_, rfl⟩
  obtain ⟨L, hL⟩ : ∃ L, S.length = L := ⟨_, rfl⟩
  have hSl : L = n0 + 4 := by rw [← hL, ← hS, C.sea_len, l0]
  have hSb : ∀ b ∈ S, b < 256 := by rw [← hS]; exact C.sea_byt hb
  have hSk : C.reg C.ones S = C.st 32 C.ones := by rw [← hS]; exact C.sea_reg hb
  have hSi : z0 ++ C.ints (C.le4 (C.sum (C.nats z0))) = C.ints S := by rw [← hS]; exact C.sea_ints hb
  have HS := Lib.hid (And.intro hL (And.intro hSb (And.intro hSk (And.intro hSi hSl))))
  clear wf0 rd0 tb hb l0 cp0 nz0 r0 w1 w2 hL hSb hSk hSi hS
  go_enter Tryd.func9, Tryd.ntmps9
  by_cases hbig : (1000 : Int) < (n0 : Int)
  · have hlv := C.plives_any w TB.out
    have hbl : Below w.heap.size w w := Below.refl _ w
    have HBL := Lib.hid hbl
    clear hbl
    go_wp2_with fail
    refine hlv.mono ?_
    clear hlv
    rintro r w99 ⟨rfl, hb99⟩
    have HB99 := Lib.hid (HBL.out.trans (hb99.mono HBL.out.size))
    clear hb99
    go_wp2_with fail
    go_ret
    exact ⟨rfl, HB99.out⟩
  · have hn : n0 ≤ 1000 := by omega
    have hL4 : 4 ≤ L := by omega
    have hLm : L ≤ 1004 := by omega
    have h1 := C.pseal_any a0 n0 c0 z0 w TB.out HL.out (by omega) HC.out HN.out HB.out HR.out
    rw [HS.out.2.2.2.1] at h1
    have hne : ((L : Int) != (n0 : Int) + 4) = false := by simp; omega
    obtain ⟨p, hp⟩ : ∃ p, i1 % (8 * L) = p := ⟨_, rfl⟩
    obtain ⟨q, hq⟩ : ∃ q, i2 % (8 * L) = q := ⟨_, rfl⟩
    have hp8 : p < 8 * L := by rw [← hp]; exact Nat.mod_lt _ (by omega)
    have hq8 : q < 8 * L := by rw [← hq]; exact Nat.mod_lt _ (by omega)
    have ep : (i1 : Int) % (8 * (L : Int)) = (p : Int) := by rw [← hp]; push_cast; rfl
    have eq : (i2 : Int) % (8 * (L : Int)) = (q : Int) := by rw [← hq]; push_cast; rfl
    have hz8 : ¬ (8 * (L : Int) = 0) := by omega
    have tm1 : (IntKind.i64.wrap (i1 : Int)).tmod (8 * (L : Int)) = (p : Int) := by
      rw [show IntKind.i64.wrap (i1 : Int) = (i1 : Int) from by rw [IntKind.wrap_i64]; omega, Int.tmod_eq_emod_of_nonneg (by omega)]
      exact ep
    have tm2 : (IntKind.i64.wrap (i2 : Int)).tmod (8 * (L : Int)) = (q : Int) := by
      rw [show IntKind.i64.wrap (i2 : Int) = (i2 : Int) from by rw [IntKind.wrap_i64]; omega, Int.tmod_eq_emod_of_nonneg (by omega)]
      exact eq
    have TM := Lib.hid (And.intro tm1 tm2)
    clear tm1 tm2
    have hz9 : ¬ (L = 0) := by omega
    have HP8 := Lib.hid (And.intro hp8 hq8)
    clear hp hq hSl hp8 hq8
    go_wp2_with fail
    refine h1.mono ?_
    clear h1
    rintro r w1 ⟨v1, rfl, ho1, hB1⟩
    have hli : (C.ints S).length = L := by rw [C.ints_len, HS.out.1]
    rw [hli] at ho1
    obtain ⟨A1, k1, rfl⟩ := H.own_shape ho1
    obtain ⟨_, o1, o2, o3, o4⟩ := C.own_cap ho1
    have hrd1 := H.own_RdI (show w1.ownsRow w.heap.size 5 1 (.slice A1 L k1) L ((C.ints S).map (Value.int .u8)) from ho1)
    have h2 := C.flip_any A1 L k1 p (C.ints S) w1 hli (by omega) o3 (C.ints_byt HS.out.2.1) (by
      have := H.own_RdI (n := L) (zs := C.ints S) (k := .u8) (A := A1) (c := k1) ho1
      exact this) HP8.out.1
    have hfl : C.flipL (C.nats (C.ints S)) p = C.chg S (2 ^ p) := by
      have h := C.chg_flip (s := S) (e := 0) (p := p) (by rw [HS.out.1]; exact HP8.out.1)
      rw [C.chg_zero, Nat.zero_xor] at h
      rw [C.nats_ints, h]
    rw [hfl] at h2
    have HB1 := Lib.hid hB1
    clear ho1 hB1 o1 o2 o3 o4 hrd1 hfl hli
    go_wp2_with fail
    refine h2.mono ?_
    clear h2
    rintro r w2 ⟨v2, rfl, ho2, hB2⟩
    have hli : (C.ints (C.chg S (2 ^ p))).length = L := by rw [C.ints_len, C.chg_len, HS.out.1]
    have hby : H.Byt (C.ints (C.chg S (2 ^ p))) := C.ints_byt (C.chg_byt HS.out.2.1 _)
    obtain ⟨E1, hE1⟩ : ∃ E1, C.ints (C.chg S (2 ^ p)) = E1 := ⟨_, rfl⟩
    have hnat : C.nats E1 = C.chg S (2 ^ p) := by rw [← hE1, C.nats_ints]
    have hcode : (C.openR E1).2 = 8 := by
      have h := C.code_chg HS.out.2.1 HS.out.2.2.1 (by rw [HS.out.1]; exact hL4) (e := 2 ^ p) (C.pow_lt (by rw [HS.out.1]; exact HP8.out.1))
      have hne := C.burst_ne (p := 1) (first := p) (n := 8 * S.length) (by decide) (by decide) (by rw [HS.out.1]; exact Nat.le_of_lt HP8.out.1)
      rw [Nat.mul_one] at hne
      rw [if_neg hne, hE1] at h
      exact h
    rw [hE1] at ho2 hli hby
    rw [hli] at ho2
    obtain ⟨A2, k2, rfl⟩ := H.own_shape ho2
    obtain ⟨_, o1, o2, o3, o4⟩ := C.own_cap ho2
    have HB2 := Lib.hid (HB1.out.trans (hB2.mono HB1.out.size))
    have hrd2 : H.RdI w2 w2.heap.size .u8 A2 E1 := H.own_RdI ho2
    have h3 := C.popen_any A2 L k2 E1 w2 (TB.out.below hpos HB2.out) hli (by omega) ⟨o1, o2⟩ o3 hby hrd2
    rw [hcode] at h3
    have HO2 := Lib.hid ho2
    have HE1 := Lib.hid (And.intro hli (And.intro hby hnat))
    have HA2 := Lib.hid (And.intro o1 (And.intro o2 o3))
    clear ho2 hB2 o1 o2 o3 o4 hrd2 hcode hli hby hE1 hnat
    go_wp2_with fail
    refine h3.mono ?_
    clear h3
    rintro r w3 ⟨A3, k3, rfl, _, _, _, _, hb3⟩
    have ho3 := H.own_kept_below HO2.out hb3
    have HB3 := Lib.hid (HB2.out.trans (hb3.mono HB2.out.size))
    have h4 := C.flip_any A2 L k2 q E1 w3 HE1.out.1 (by omega) HA2.out.2.2 HE1.out.2.1 (H.own_RdI ho3) HP8.out.2
    have hfl : C.flipL (C.nats E1) q = C.chg S (2 ^ p ^^^ 2 ^ q) := by
      rw [HE1.out.2.2]
      exact C.chg_flip (by rw [HS.out.1]; exact HP8.out.2)
    rw [hfl] at h4
    clear ho3 hb3 hfl
    go_wp2_with fail
    refine h4.mono ?_
    clear h4
    rintro r w4 ⟨v4, rfl, ho4, hB4⟩
    obtain ⟨E2, hE2⟩ : ∃ E2, C.ints (C.chg S (2 ^ p ^^^ 2 ^ q)) = E2 := ⟨_, rfl⟩
    have hli : E2.length = L := by rw [← hE2, C.ints_len, C.chg_len, HS.out.1]
    have hby : H.Byt E2 := by rw [← hE2]; exact C.ints_byt (C.chg_byt HS.out.2.1 _)
    have hcode : (C.openR E2).2 = if p = q then 0 else 8 := by
      have h := C.code_chg HS.out.2.1 HS.out.2.2.1 (by rw [HS.out.1]; exact hL4) (e := 2 ^ p ^^^ 2 ^ q) (C.two_lt (by rw [HS.out.1]; exact HP8.out.1) (by rw [HS.out.1]; exact HP8.out.2))
      rw [hE2] at h
      rw [h]
      by_cases hpq : p = q
      · rw [hpq, Nat.xor_self, C.st_zero, if_pos rfl, if_pos rfl]
      · rw [if_neg hpq, if_neg]
        have h8 := HP8.out
        rcases Nat.lt_or_gt_of_ne hpq with hlt | hgt
        · exact C.two_ne hlt (by rw [HS.out.1]; omega) (by omega)
        · rw [Nat.xor_comm]
          exact C.two_ne hgt (by rw [HS.out.1]; omega) (by omega)
    rw [hE2] at ho4
    rw [hli] at ho4
    obtain ⟨A4, k4, rfl⟩ := H.own_shape ho4
    obtain ⟨_, o1, o2, o3, o4⟩ := C.own_cap ho4
    have HB4 := Lib.hid (HB3.out.trans (hB4.mono HB3.out.size))
    have h5 := C.popen_any A4 L k4 E2 w4 (TB.out.below hpos HB4.out) hli (by omega) ⟨o1, o2⟩ o3 hby (H.own_RdI ho4)
    rw [hcode] at h5
    clear ho4 hB4 o1 o2 o3 o4 hcode hli hby hE2
    go_wp2_with fail
    refine h5.mono ?_
    clear h5
    rintro r w5 ⟨A5, k5, rfl, _, _, _, _, hb5⟩
    have HB5 := Lib.hid (HB4.out.trans (hb5.mono HB4.out.size))
    clear hb5
    by_cases hpq : p = q
    · have hpq' : ((IntKind.i64.wrap (i1 : Int)).tmod (8 * (L : Int)) == (IntKind.i64.wrap (i2 : Int)).tmod (8 * (L : Int))) = true := by rw [TM.out.1, TM.out.2, hpq]; simp
      have hpq2 : ((p : Int) == (q : Int)) = true := by rw [hpq]; simp
      have hcc : (if p = q then (0 : Int) else 8) = 0 := if_pos hpq
      rw [hcc]
      clear hcc hpq
      go_wp2_with fail
      go_quiet (fail)
      have hlv := fun m => C.plives_any (Go.World.drewN w5 m) (TB.out.below hpos (below_drewN HB5.out m))
      go_wp2_with fail
      refine (hlv _).mono ?_
      clear hlv
      rintro r w99 ⟨rfl, hb99⟩
      have HB99 := Lib.hid ((below_drewN HB5.out _).trans (hb99.mono HB5.out.size))
      clear hb99
      go_wp2_with fail
      go_ret
      exact ⟨rfl, HB99.out⟩
    · have hpq' : ((IntKind.i64.wrap (i1 : Int)).tmod (8 * (L : Int)) == (IntKind.i64.wrap (i2 : Int)).tmod (8 * (L : Int))) = false := by rw [TM.out.1, TM.out.2]; simp; omega
      have hpq2 : ((p : Int) == (q : Int)) = false := by simp; omega
      have hcc : (if p = q then (0 : Int) else 8) = 8 := if_neg hpq
      rw [hcc]
      clear hcc hpq
      go_wp2_with fail
      go_quiet (fail)
      have hlv := fun m => C.plives_any (Go.World.drewN w5 m) (TB.out.below hpos (below_drewN HB5.out m))
      go_wp2_with fail
      refine (hlv _).mono ?_
      clear hlv
      rintro r w99 ⟨rfl, hb99⟩
      have HB99 := Lib.hid ((below_drewN HB5.out _).trans (hb99.mono HB5.out.size))
      clear hb99
      go_wp2_with fail
      go_ret
      exact ⟨rfl, HB99.out⟩

theorem reads (os : Os) {H0 : Type} (enc : TypeId × Value → H0) : ∃ places, DataW.whole enc Tryd.prog ((Go.Proofs.YtpkhbglmbdpodaaDoor.C.laidWorld os).forCall (fun _ _ => 0) ⟨#[], #[.slice none 0 0, .int .u16 0, .int .u16 0], []⟩).memory Tryd.f9.params.toList Rows.crcTwoBitsSpec.vars false (#[.slice none 0 0, .int .u16 0, .int .u16 0] : Array Value).toList 8 = some ([.nil, .lit (.int .u16 0), .lit (.int .u16 0)], [], places) :=
  ⟨[], by kernel_rfl⟩
set_option maxRecDepth 100000 in
theorem lifted (os : Os) (started : os.Started) (H0 : Type) (enc : TypeId × Value → H0) (F0 : Stop.Interp) :
    ReturnsInHanded {} Tryd.checked os 9 .any ((OpenSpec.ofChange Rows.crcTwoBitsSpec).preRow enc Tryd.prog Tryd.f9 Rows.crcTwoBitsRow.domain false Rows.crcTwoBitsRow.laid) (((OpenSpec.ofChange Rows.crcTwoBitsSpec).at F0).post enc Tryd.prog Tryd.f9 false true false false) := by
  obtain ⟨places, hx⟩ := reads os enc
  refine returnsInHanded_of_row (C := Tryd.checked) (s := (OpenSpec.ofChange Rows.crcTwoBitsSpec)) Go.Proofs.YtpkhbglmbdpodaaDoor.O.own started (by kernel_rfl) Tryd.func9
    (witness_row_at (enc := enc) (C := Tryd.checked) false (Go.Proofs.YtpkhbglmbdpodaaDoor.C.laidWorld os) #[.slice none 0 0, .int .u16 0, .int .u16 0] rfl (by kernel_rfl) (by kernel_rfl) (by kernel_rfl)
      (OpenSpec.preRow_of_cond 8 hx (by kernel_rfl) (fun k hk => by cases hk) (by kernel_rfl) (Go.Proofs.YtpkhbglmbdpodaaDoor.C.laid_met os _))) ?_
  intro W base args ds gs before hval0 hW _ hk0 hsz0 hL _ _
  have hsz : (DataW.weightsEach Tryd.prog (Tryd.f9.params.toList ++ (OpenSpec.ofChange Rows.crcTwoBitsSpec).bare.plain.varTypes Tryd.prog) (ds ++ gs)).all (· ≤ reachBytes) = true := hsz0
  clear hsz0
  have hval : ∀ (j : Nat) t v, Tryd.f9.params[j]? = some t → args[j]? = some v → Value.okWide Tryd.prog W .any base t v := hval0
  have hW' := hW
  obtain ⟨p, q, hA0, hV, rfl, hfz, hnd⟩ := hW
  have hA : DataW.TrodAll enc Tryd.prog W 0 (fun _ => true) true Tryd.f9.params.toList args.toList ds p := hA0
  rw [Tryd.params9] at hA hval hsz
  obtain ⟨v0, vs0, d0, ds0, p0, q0, hargs, rfl, rfl, h0, r0⟩ := trodAll_cons hA
  obtain ⟨v1, vs1, d1, ds1, p1, q1, rfl, rfl, rfl, h1, r1⟩ := trodAll_cons r0
  obtain ⟨v2, vs2, d2, ds2, p2, q2, rfl, rfl, rfl, h2, r2⟩ := trodAll_cons r1
  obtain ⟨rfl, rfl, rfl⟩ := trodAll_nil r2
  obtain rfl : args = #[v0, v1, v2] := by cases args; simp_all
  obtain ⟨rfl, rfl⟩ := trodVars_none hV
  obtain ⟨a0, n0, c0, rfl⟩ := okWide_slice Tryd.underlying22 (hval 0 22 v0 rfl rfl)
  have k0 := h0
  have lt0 : ∀ x ∈ p0, x.block < W.heap.size := by obtain ⟨m, hm⟩ := k0; exact DataW.trod_lt m _ _ _ hm
  obtain ⟨z0, l0, cp0, cq0, nz0, rd0, wf0, bj0⟩ := Go.Proofs.YtpkhbglmbdpodaaDoor.O.open_isT Tryd.underlying22 Tryd.underlying5 (by kernel_rfl) h0
  have el0 := Go.Proofs.YtpkhbglmbdpodaaDoor.O.open_el Tryd.underlying22 Tryd.underlying5 (by kernel_rfl) k0
  obtain ⟨a1, rfl, rfl, rfl, w1⟩ := open_int Tryd.underlying37 (hval 1 37 v1 rfl rfl) h1
  obtain ⟨a2, rfl, rfl, rfl, w2⟩ := open_int Tryd.underlying37 (hval 2 37 v2 rfl rfl) h2
  clear hA0 hval0
  have r0 : z0.length * 1 ≤ 140737488351232 := by
    rcases el0 with h | ⟨es, sp, h, hle⟩
    · omega
    · have hr := sized_slice hsz (j := 0) (t := 22) (e := 5) (elems := es) (spare := sp) rfl (by simp [h]) Tryd.underlying22
      rw [show Tryd.prog.bytesOf 5 = 1 from by kernel_rfl] at hr
      simp only [reachBytes] at hr
      omega
  have tb := Go.Proofs.YtpkhbglmbdpodaaDoor.C.tab_of_laid hL
  refine (walk a0 n0 c0 z0 a1 a2 W tb l0 ⟨cp0, cq0⟩ nz0 rd0 wf0 r0 w1 w2).mono fun e W' ⟨he, bel⟩ => ?_
  subst he
  exact ⟨_, rfl, _, _, _, [], _, [], hW', trodAll_mk1 (shut_bool Tryd.underlying4 _), (trodAll_cons_mk (Below.trod Go.Proofs.YtpkhbglmbdpodaaDoor.O.laidOut (by kernel_rfl) (of_decide_eq_true (by kernel_rfl)) k0 bel lt0) (trodAll_cons_mk (shut_int Tryd.underlying37 w1) (trodAll_cons_mk (shut_int Tryd.underlying37 w2) trodAll_mk0))), rfl, bel.frame _, fun h => by cases h⟩

theorem said : Rows.CrcTwoBitsSaid :=
  OpenClaim.holds_of_cond 9 Tryd.f9 rfl rfl rfl rfl rfl rfl rfl ⟨rfl, rfl, rfl, rfl, rfl⟩ rfl rfl rfl rfl rfl (by kernel_rfl) Tryd.func9 (by kernel_rfl)
    (of_decide_eq_true (by kernel_rfl)) (by unfold Func.isWrapper; first | (rw [if_pos (by decide +kernel)]; kernel_rfl) | (rw [if_neg (by decide +kernel)]; exact ⟨rfl, rfl⟩))
    (fun os started H0 enc _ F0 => by rw [OpenClaim.pre_eq_preRow]; exact lifted os started H0 enc F0)
theorem plain (f : FuncId) (fn : Func) (hf : Tryd.pinned.checked.prog.funcNamed "perigee/perigeelaw03.CrcTwoBits" = some f) (hfn : Tryd.pinned.checked.prog.funcs[f]? = some fn) :
    false = Tryd.pinned.checked.prog.looks [] ∧ ∀ (j : Nat) t, fn.params[j]? = some t → Tryd.pinned.checked.prog.wantsStandIn t = false := by
  obtain rfl : f = 9 := Option.some.inj ((show Tryd.prog.funcNamed "perigee/perigeelaw03.CrcTwoBits" = some 9 by kernel_rfl).symm.trans hf) |>.symm
  obtain rfl : fn = Tryd.f9 := (Option.some.inj (Tryd.func9.symm.trans hfn)).symm
  refine ⟨by kernel_rfl, fun j t ht => ?_⟩
  rw [Tryd.params9] at ht
  have hm : t ∈ [22, 37, 37] := by simpa using Array.mem_of_getElem? ht
  have hall : ([22, 37, 37].all fun u => !Tryd.prog.wantsStandIn u) = true := by kernel_rfl
  exact (show Tryd.prog.wantsStandIn t = false by simpa using List.all_eq_true.1 hall t hm)
/-- ████ THE CARD ████ -/
theorem proved : Rows.CrcTwoBitsCardSaid :=
  Claim7.holds_tied_plain_at .later [] _ _ _ _ said (fun _ h => by cases h) (by kernel_rfl) (fun _ h => by cases h) crcTwoBits_row_tie rfl ⟨rfl, rfl⟩ (by kernel_rfl) rfl plain (by kernel_rfl)
end Go.Proofs.YtpkhbglmbdpodaaDoor.crcTwoBits
