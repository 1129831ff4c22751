/-
  For all numbers and lengths below 2^32, CrcZeros returns true: feeding zero bytes in two portions is feeding them at once, and the second checksum enters by XOR.
-/
import Derived.Test.YtpkhbglmbdpodaaDoorCProg
import Derived.Deep.DeepCutAuto
import Derived.Deep.RegionHeld3
import Derived.Deep.LoopGhost
import Derived.Deep.QuietTactic
import Derived.Test.YtpkhbglmbdpodaaDoorApp
namespace Go.Proofs.YtpkhbglmbdpodaaDoor.crcZeros
open Go.ChangeShapes Go.WideShapes Go.ChangeAt Go.RowKit
open Go.ChangeMaps (open_string shut_string)
set_option linter.unusedVariables false

set_option maxRecDepth 100000 in
set_option maxHeartbeats 1000000 in
theorem walk (a0 : Int) (a1 : Int) (a2 : Int) (a3 : Int) (w : World) (tb : C.Tab w) (w0 : (Lit.int .u32 a0).wf = true) (w1 : (Lit.int .u32 a1).wf = true) (w2 : (Lit.int .u32 a2).wf = true) (w3 : (Lit.int .u32 a3).wf = true) :
    Calls Tryd.prog 11 #[.int .u32 a0, .int .u32 a1, .int .u32 a2, .int .u32 a3] w fun e w' => e = .returned (.bool true) ∧ Below w.heap.size w w' := by
  have q0 := C.u32_range w0
  have q1 := C.u32_range w1
  have q2 := C.u32_range w2
  have q3 := C.u32_range w3
  obtain ⟨a, rfl⟩ : ∃ a : Nat, a0 = a := ⟨a0.toNat, by omega⟩
  obtain ⟨b, rfl⟩ : ∃ b : Nat, a1 = b := ⟨a1.toNat, by omega⟩
  obtain ⟨m, rfl⟩ : ∃ m : Nat, a2 = m := ⟨a2.toNat, by omega⟩
  obtain ⟨n, rfl⟩ : ∃ n : Nat, a3 = n := ⟨a3.toNat, by omega⟩
  have TB := Lib.hid tb
  have Q := Lib.hid (show a < 4294967296 ∧ b < 4294967296 ∧ m < 4294967296 ∧ n < 4294967296 by omega)
  have hpos := tb.pos
  have e0 : ((m : Int) + (n : Int)).toNat = m + n := by omega
  have E0 := Lib.hid e0
  have hx := C.u32_x (C.comb a b (m + n)) b (C.comb_lt Q.out.1 Q.out.2.1 _) Q.out.2.1
  rw [C.comb_xor] at hx
  have hmn : (m : Int) + (n : Int) ≤ 9223372036854775807 := by omega
  clear w0 w1 w2 w3 tb q0 q1 q2 q3 e0
  have h1 := C.pcomb_any a b ((m : Int) + n) w TB.out Q.out.1 Q.out.2.1 (by omega)
  rw [E0.out] at h1
  go_enter Tryd.func11, Tryd.ntmps11
  go_wp2_with fail
  refine h1.mono ?_
  clear h1
  rintro r w1 ⟨rfl, hb1⟩
  have HB1 := Lib.hid (hb1)
  clear hb1
  have h2 := C.pcomb_any a 0 (m : Int) w1 (TB.out.below hpos HB1.out) Q.out.1 (by decide) (by have := Q.out; omega)
  rw [show (m : Int).toNat = m from by omega] at h2
  go_wp2_with fail
  refine h2.mono ?_
  clear h2
  rintro r w2 ⟨rfl, hb2⟩
  have HB2 := Lib.hid (HB1.out.trans (hb2.mono HB1.out.size))
  clear hb2
  have h3 := C.pcomb_any (C.comb a 0 m) b (n : Int) w2 (TB.out.below hpos HB2.out) (C.comb_lt Q.out.1 (by decide) _) Q.out.2.1 (by have := Q.out; omega)
  rw [show (n : Int).toNat = n from by omega, C.comb_two] at h3
  go_wp2_with fail
  refine h3.mono ?_
  clear h3
  rintro r w3 ⟨rfl, hb3⟩
  have HB3 := Lib.hid (HB2.out.trans (hb3.mono HB2.out.size))
  clear hb3
  have h4 := C.pcomb_any a 0 ((m : Int) + n) w3 (TB.out.below hpos HB3.out) Q.out.1 (by decide) (by have := Q.out; omega)
  rw [E0.out] at h4
  go_wp2_with fail
  refine h4.mono ?_
  clear h4
  rintro r w4 ⟨rfl, hb4⟩
  have HB4 := Lib.hid (HB3.out.trans (hb4.mono HB3.out.size))
  clear hb4
  have h5 := C.pcomb_any 0 b (n : Int) w4 (TB.out.below hpos HB4.out) (by decide) Q.out.2.1 (by have := Q.out; omega)
  rw [C.comb_zero] at h5
  go_wp2_with fail
  refine h5.mono ?_
  clear h5
  rintro r w5 ⟨rfl, hb5⟩
  have HB5 := Lib.hid (HB4.out.trans (hb5.mono HB4.out.size))
  clear hb5
  have hlv := C.plives_any w5 (TB.out.below hpos HB5.out)
  have hbl : Below w.heap.size w w5 := HB5.out
  have HBL := Lib.hid hbl
  clear hbl
  go_wp2_with fail
  refine hlv.mono ?_
  clear hlv
  rintro r w99 ⟨rfl, hb99⟩
  have HB99 := Lib.hid (HBL.out.trans (hb99.mono HBL.out.size))
  clear hb99
  go_wp2_with fail
  go_ret
  exact ⟨rfl, HB99.out⟩

theorem reads (os : Os) {H0 : Type} (enc : TypeId × Value → H0) : ∃ places, DataW.whole enc Tryd.prog ((Go.Proofs.YtpkhbglmbdpodaaDoor.C.laidWorld os).forCall (fun _ _ => 0) ⟨#[], #[.int .u32 0, .int .u32 0, .int .u32 0, .int .u32 0], []⟩).memory Tryd.f11.params.toList Rows.crcZerosSpec.vars false (#[.int .u32 0, .int .u32 0, .int .u32 0, .int .u32 0] : Array Value).toList 8 = some ([.lit (.int .u32 0), .lit (.int .u32 0), .lit (.int .u32 0), .lit (.int .u32 0)], [], places) :=
  ⟨[], by kernel_rfl⟩
set_option maxRecDepth 100000 in
theorem lifted (os : Os) (started : os.Started) (H0 : Type) (enc : TypeId × Value → H0) (F0 : Stop.Interp) :
    ReturnsInHanded {} Tryd.checked os 11 .any ((OpenSpec.ofChange Rows.crcZerosSpec).preRow enc Tryd.prog Tryd.f11 Rows.crcZerosRow.domain false Rows.crcZerosRow.laid) (((OpenSpec.ofChange Rows.crcZerosSpec).at F0).post enc Tryd.prog Tryd.f11 false true false false) := by
  obtain ⟨places, hx⟩ := reads os enc
  refine returnsInHanded_of_row (C := Tryd.checked) (s := (OpenSpec.ofChange Rows.crcZerosSpec)) Go.Proofs.YtpkhbglmbdpodaaDoor.O.own started (by kernel_rfl) Tryd.func11
    (witness_row_at (enc := enc) (C := Tryd.checked) false (Go.Proofs.YtpkhbglmbdpodaaDoor.C.laidWorld os) #[.int .u32 0, .int .u32 0, .int .u32 0, .int .u32 0] rfl (by kernel_rfl) (by kernel_rfl) (by kernel_rfl)
      (OpenSpec.preRow_of_cond 8 hx (by kernel_rfl) (fun k hk => by cases hk) (by kernel_rfl) (Go.Proofs.YtpkhbglmbdpodaaDoor.C.laid_met os _))) ?_
  intro W base args ds gs before hval0 hW _ hk0 hsz0 hL _ _
  have hsz : (DataW.weightsEach Tryd.prog (Tryd.f11.params.toList ++ (OpenSpec.ofChange Rows.crcZerosSpec).bare.plain.varTypes Tryd.prog) (ds ++ gs)).all (· ≤ reachBytes) = true := hsz0
  clear hsz0
  have hval : ∀ (j : Nat) t v, Tryd.f11.params[j]? = some t → args[j]? = some v → Value.okWide Tryd.prog W .any base t v := hval0
  have hW' := hW
  obtain ⟨p, q, hA0, hV, rfl, hfz, hnd⟩ := hW
  have hA : DataW.TrodAll enc Tryd.prog W 0 (fun _ => true) true Tryd.f11.params.toList args.toList ds p := hA0
  rw [Tryd.params11] at hA hval hsz
  obtain ⟨v0, vs0, d0, ds0, p0, q0, hargs, rfl, rfl, h0, r0⟩ := trodAll_cons hA
  obtain ⟨v1, vs1, d1, ds1, p1, q1, rfl, rfl, rfl, h1, r1⟩ := trodAll_cons r0
  obtain ⟨v2, vs2, d2, ds2, p2, q2, rfl, rfl, rfl, h2, r2⟩ := trodAll_cons r1
  obtain ⟨v3, vs3, d3, ds3, p3, q3, rfl, rfl, rfl, h3, r3⟩ := trodAll_cons r2
  obtain ⟨rfl, rfl, rfl⟩ := trodAll_nil r3
  obtain rfl : args = #[v0, v1, v2, v3] := by cases args; simp_all
  obtain ⟨rfl, rfl⟩ := trodVars_none hV
  obtain ⟨a0, rfl, rfl, rfl, w0⟩ := open_int Tryd.underlying23 (hval 0 23 v0 rfl rfl) h0
  obtain ⟨a1, rfl, rfl, rfl, w1⟩ := open_int Tryd.underlying23 (hval 1 23 v1 rfl rfl) h1
  obtain ⟨a2, rfl, rfl, rfl, w2⟩ := open_int Tryd.underlying23 (hval 2 23 v2 rfl rfl) h2
  obtain ⟨a3, rfl, rfl, rfl, w3⟩ := open_int Tryd.underlying23 (hval 3 23 v3 rfl rfl) h3
  clear hA0 hval0
  have tb := Go.Proofs.YtpkhbglmbdpodaaDoor.C.tab_of_laid hL
  refine (walk a0 a1 a2 a3 W tb w0 w1 w2 w3).mono fun e W' ⟨he, bel⟩ => ?_
  subst he
  exact ⟨_, rfl, _, _, _, [], _, [], hW', trodAll_mk1 (shut_bool Tryd.underlying4 _), (trodAll_cons_mk (shut_int Tryd.underlying23 w0) (trodAll_cons_mk (shut_int Tryd.underlying23 w1) (trodAll_cons_mk (shut_int Tryd.underlying23 w2) (trodAll_cons_mk (shut_int Tryd.underlying23 w3) trodAll_mk0)))), rfl, bel.frame _, fun h => by cases h⟩

theorem said : Rows.CrcZerosSaid :=
  OpenClaim.holds_of_cond 11 Tryd.f11 rfl rfl rfl rfl rfl rfl rfl ⟨rfl, rfl, rfl, rfl, rfl⟩ rfl rfl rfl rfl rfl (by kernel_rfl) Tryd.func11 (by kernel_rfl)
    (of_decide_eq_true (by kernel_rfl)) (by unfold Func.isWrapper; first | (rw [if_pos (by decide +kernel)]; kernel_rfl) | (rw [if_neg (by decide +kernel)]; exact ⟨rfl, rfl⟩))
    (fun os started H0 enc _ F0 => by rw [OpenClaim.pre_eq_preRow]; exact lifted os started H0 enc F0)
theorem plain (f : FuncId) (fn : Func) (hf : Tryd.pinned.checked.prog.funcNamed "perigee/perigeelaw03.CrcZeros" = some f) (hfn : Tryd.pinned.checked.prog.funcs[f]? = some fn) :
    false = Tryd.pinned.checked.prog.looks [] ∧ ∀ (j : Nat) t, fn.params[j]? = some t → Tryd.pinned.checked.prog.wantsStandIn t = false := by
  obtain rfl : f = 11 := Option.some.inj ((show Tryd.prog.funcNamed "perigee/perigeelaw03.CrcZeros" = some 11 by kernel_rfl).symm.trans hf) |>.symm
  obtain rfl : fn = Tryd.f11 := (Option.some.inj (Tryd.func11.symm.trans hfn)).symm
  refine ⟨by kernel_rfl, fun j t ht => ?_⟩
  rw [Tryd.params11] at ht
  have hm : t ∈ [23, 23, 23, 23] := by simpa using Array.mem_of_getElem? ht
  have hall : ([23, 23, 23, 23].all fun u => !Tryd.prog.wantsStandIn u) = true := by kernel_rfl
  exact (show Tryd.prog.wantsStandIn t = false by simpa using List.all_eq_true.1 hall t hm)
/-- ████ THE CARD ████ -/
theorem proved : Rows.CrcZerosCardSaid :=
  Claim7.holds_tied_plain_at .later [] _ _ _ _ said (fun _ h => by cases h) (by kernel_rfl) (fun _ h => by cases h) crcZeros_row_tie rfl ⟨rfl, rfl⟩ (by kernel_rfl) rfl plain (by kernel_rfl)
end Go.Proofs.YtpkhbglmbdpodaaDoor.crcZeros
