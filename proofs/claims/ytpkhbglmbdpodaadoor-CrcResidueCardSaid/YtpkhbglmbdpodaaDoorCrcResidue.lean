/-
  For every byte slice, CrcResidue returns true: of slices of at most 4096 bytes, the checksum of the sealed slice is the residue, and a slice opens exactly if it has at least 4 bytes and its checksum is the residue.
-/
import Derived.Test.YtpkhbglmbdpodaaDoorCProg
import Derived.Deep.DeepCutAuto
import Derived.Deep.RegionHeld3
import Derived.Deep.LoopGhost
import Derived.Deep.QuietTactic
import Derived.Test.YtpkhbglmbdpodaaDoorApp
namespace Go.Proofs.YtpkhbglmbdpodaaDoor.crcResidue
open Go.ChangeShapes Go.WideShapes Go.ChangeAt Go.RowKit
open Go.ChangeMaps (open_string shut_string)
set_option linter.unusedVariables false
theorem sum_res {bs : List Int} (hb : H.Byt bs) : C.sum (C.nats (bs ++ C.ints (C.le4 (C.sum (C.nats bs))))) = 558161692 := by
  rw [C.nats_append, C.nats_ints, C.sum_def]
  have h := C.reg_seal (C.nats_byt hb)
  unfold C.sealed at h
  rw [h]
  exact C.residue_val
theorem open_res {bs : List Int} (hb : H.Byt bs) : ((C.openR bs).2 = 0) ↔ (4 ≤ bs.length ∧ C.sum (C.nats bs) = 558161692) := by
  unfold C.openR
  by_cases h4 : bs.length < 4
  · rw [if_pos h4]
    constructor
    · intro h; exact absurd h (by decide)
    · intro h; omega
  · rw [if_neg h4]
    have hx := C.nats_byt (C.byt_take hb (bs.length - 4))
    have hyb : H.Byt (bs.drop (bs.length - 4)) := fun x hx => hb x (List.mem_of_mem_drop hx)
    have hy := C.nats_byt hyb
    have hl : (C.nats (bs.drop (bs.length - 4))).length = 4 := by rw [C.nats_len, List.length_drop]; omega
    have hiff := C.sealed_iff hx hy hl
    rw [← C.nats_append, List.take_append_drop] at hiff
    have e1 : bs.drop (bs.length - 4) = C.ints (C.le4 (C.sum (C.nats (bs.take (bs.length - 4))))) ↔ C.nats (bs.drop (bs.length - 4)) = C.le4 (C.sum (C.nats (bs.take (bs.length - 4)))) := by
      constructor
      · intro h; rw [h, C.nats_ints]
      · intro h; rw [← h, C.ints_nats hyb]
    have hlt := C.reg_lt C.ones_lt (C.nats_byt hb)
    have e2 : C.reg C.ones (C.nats bs) = C.st 32 C.ones ↔ C.sum (C.nats bs) = 558161692 := by
      have h3 := C.residue_val
      have h4 : C.st 32 C.ones < 4294967296 := C.st_lt C.ones_lt 32
      rw [C.sum_def]
      unfold C.ones at *
      omega
    rw [← e2, ← hiff, ← e1]
    split
    · rename_i h
      exact ⟨fun _ => ⟨by omega, h⟩, fun _ => rfl⟩
    · rename_i h
      exact ⟨fun h0 => absurd h0 (by decide), fun h0 => absurd h0.2 h⟩

set_option maxRecDepth 100000 in
set_option maxHeartbeats 1000000 in
theorem walk (a0 : Option Addr) (n0 c0 : Nat) (z0 : List Int) (w : World) (tb : C.Tab w) (l0 : z0.length = n0) (cp0 : n0 ≤ c0 ∧ c0 ≤ maxLen) (nz0 : a0 = none → c0 = 0) (rd0 : H.RdI w w.heap.size .u8 a0 z0) (wf0 : ∀ n ∈ z0, (Lit.int .u8 n).wf = true) (r0 : z0.length * 1 ≤ 140737488351232) :
    Calls Tryd.prog 6 #[.slice a0 n0 c0] w fun e w' => e = .returned (.bool true) ∧ Below w.heap.size w w' := by
  have hb := H.u8_byt wf0
  have TB := Lib.hid tb
  have HL := Lib.hid l0
  have HB := Lib.hid hb
  have HR := Lib.hid rd0
  have HC := Lib.hid cp0
  have HN := Lib.hid nz0
  have hpos := tb.pos
  have hres := Lib.hid (sum_res hb)
  have hopr := Lib.hid (open_res hb)
  clear wf0 rd0 tb hb l0 cp0 nz0 r0
  go_enter Tryd.func6, Tryd.ntmps6
  by_cases hbig : (4096 : Int) < (n0 : Int)
  · have hlv := C.plives_any w TB.out
    have hbl : Below w.heap.size w w := Below.refl _ w
    have HBL := Lib.hid hbl
    clear hbl
    go_wp2_with fail
    refine hlv.mono ?_
    clear hlv
    rintro r w99 ⟨rfl, hb99⟩
    have HB99 := Lib.hid (HBL.out.trans (hb99.mono HBL.out.size))
    clear hb99
    go_wp2_with fail
    go_ret
    exact ⟨rfl, HB99.out⟩
  · have hn : n0 ≤ 4096 := by omega
    have h1 := C.pseal_any a0 n0 c0 z0 w TB.out HL.out (by omega) HC.out HN.out HB.out HR.out
    obtain ⟨E, hE⟩ : ∃ E, z0 ++ C.ints (C.le4 (C.sum (C.nats z0))) = E := ⟨_, rfl⟩
    have hEl : E.length = n0 + 4 := by rw [← hE, List.length_append, HL.out, C.ints_len]; rfl
    have hEb : H.Byt E := by rw [← hE]; exact C.byt_append HB.out (C.ints_byt (C.digits_byt 4 _))
    have hEs : C.sum (C.nats E) = 558161692 := by rw [← hE]; exact hres.out
    rw [hE] at h1
    have HEL := Lib.hid hEl
    have HEB := Lib.hid hEb
    have HES := Lib.hid hEs
    clear hE hEl hEb hEs
    go_wp2_with fail
    refine h1.mono ?_
    clear h1
    rintro r w1 ⟨v1, rfl, ho1, hb1⟩
    obtain ⟨A1, q1, rfl⟩ := H.own_shape ho1
    have h2 := C.psum_any A1 E.length q1 E w1 (TB.out.below hpos hb1) rfl (by have := HEL.out; omega) HEB.out (H.own_RdI ho1)
    rw [HES.out] at h2
    have HB1 := Lib.hid hb1
    clear ho1 hb1
    go_wp2_with fail
    refine h2.mono ?_
    clear h2
    rintro r w2 ⟨rfl, hb2⟩
    have HB2 := Lib.hid (HB1.out.trans (hb2.mono HB1.out.size))
    clear hb2
    have h3 := C.popen_any a0 n0 c0 z0 w2 (TB.out.below hpos HB2.out) HL.out (by omega) HC.out HN.out HB.out ((HR.out.below HB2.out).more HB2.out.size)
    obtain ⟨e, he⟩ : ∃ e, (C.openR z0).2 = e := ⟨_, rfl⟩
    have hop := hopr.out
    rw [he] at h3 hop
    rw [HL.out] at hop
    have HOP := Lib.hid hop
    clear hop he hres
    go_wp2_with fail
    refine h3.mono ?_
    clear h3
    rintro r w3 ⟨Av, cv, rfl, _, _, _, _, hb3⟩
    have HB3 := Lib.hid (HB2.out.trans (hb3.mono HB2.out.size))
    clear hb3
    by_cases h4 : (4 : Int) ≤ (n0 : Int)
    · have h5 := C.psum_any a0 n0 c0 z0 w3 (TB.out.below hpos HB3.out) HL.out (by omega) HB.out ((HR.out.below HB3.out).more HB3.out.size)
      obtain ⟨d, hd⟩ : ∃ d, C.sum (C.nats z0) = d := ⟨_, rfl⟩
      have hop := HOP.out
      rw [hd] at h5 hop
      have hq : ((e == 0) == ((d : Int) == 558161692)) = true := by
        by_cases he0 : e = 0
        · have := (hop.1 he0).2
          rw [he0, this]; rfl
        · have h6 : ¬ d = 558161692 := fun h => he0 (hop.2 ⟨by omega, h⟩)
          have h7 : (e == 0) = false := by simpa using he0
          have h8 : ((d : Int) == 558161692) = false := by simp; omega
          rw [h7, h8]; rfl
      have HQ := Lib.hid hq
      clear hop hd hq
      go_wp2_with fail
      refine h5.mono ?_
      clear h5
      rintro r w4 ⟨rfl, hb4⟩
      have HB4 := Lib.hid (HB3.out.trans (hb4.mono HB3.out.size))
      clear hb4
      have hq := HQ.out
      have hlv := C.plives_any w4 (TB.out.below hpos HB4.out)
      have hbl : Below w.heap.size w w4 := HB4.out
      have HBL := Lib.hid hbl
      clear hbl
      go_wp2_with fail
      refine hlv.mono ?_
      clear hlv
      rintro r w99 ⟨rfl, hb99⟩
      have HB99 := Lib.hid (HBL.out.trans (hb99.mono HBL.out.size))
      clear hb99
      go_wp2_with fail
      go_ret
      exact ⟨rfl, HB99.out⟩
    · have he0 : (e == 0) = false := by
        have : ¬ e = 0 := fun h => by have := (HOP.out.1 h).1; omega
        simpa using this
      have hlv := C.plives_any w3 (TB.out.below hpos HB3.out)
      have hbl : Below w.heap.size w w3 := HB3.out
      have HBL := Lib.hid hbl
      clear hbl
      go_wp2_with fail
      refine hlv.mono ?_
      clear hlv
      rintro r w99 ⟨rfl, hb99⟩
      have HB99 := Lib.hid (HBL.out.trans (hb99.mono HBL.out.size))
      clear hb99
      go_wp2_with fail
      go_ret
      exact ⟨rfl, HB99.out⟩

theorem reads (os : Os) {H0 : Type} (enc : TypeId × Value → H0) : ∃ places, DataW.whole enc Tryd.prog ((Go.Proofs.YtpkhbglmbdpodaaDoor.C.laidWorld os).forCall (fun _ _ => 0) ⟨#[], #[.slice none 0 0], []⟩).memory Tryd.f6.params.toList Rows.crcResidueSpec.vars false (#[.slice none 0 0] : Array Value).toList 8 = some ([.nil], [], places) :=
  ⟨[], by kernel_rfl⟩
set_option maxRecDepth 100000 in
theorem lifted (os : Os) (started : os.Started) (H0 : Type) (enc : TypeId × Value → H0) (F0 : Stop.Interp) :
    ReturnsInHanded {} Tryd.checked os 6 .any ((OpenSpec.ofChange Rows.crcResidueSpec).preRow enc Tryd.prog Tryd.f6 Rows.crcResidueRow.domain false Rows.crcResidueRow.laid) (((OpenSpec.ofChange Rows.crcResidueSpec).at F0).post enc Tryd.prog Tryd.f6 false true false false) := by
  obtain ⟨places, hx⟩ := reads os enc
  refine returnsInHanded_of_row (C := Tryd.checked) (s := (OpenSpec.ofChange Rows.crcResidueSpec)) Go.Proofs.YtpkhbglmbdpodaaDoor.O.own started (by kernel_rfl) Tryd.func6
    (witness_row_at (enc := enc) (C := Tryd.checked) false (Go.Proofs.YtpkhbglmbdpodaaDoor.C.laidWorld os) #[.slice none 0 0] rfl (by kernel_rfl) (by kernel_rfl) (by kernel_rfl)
      (OpenSpec.preRow_of_cond 8 hx (by kernel_rfl) (fun k hk => by cases hk) (by kernel_rfl) (Go.Proofs.YtpkhbglmbdpodaaDoor.C.laid_met os _))) ?_
  intro W base args ds gs before hval0 hW _ hk0 hsz0 hL _ _
  have hsz : (DataW.weightsEach Tryd.prog (Tryd.f6.params.toList ++ (OpenSpec.ofChange Rows.crcResidueSpec).bare.plain.varTypes Tryd.prog) (ds ++ gs)).all (· ≤ reachBytes) = true := hsz0
  clear hsz0
  have hval : ∀ (j : Nat) t v, Tryd.f6.params[j]? = some t → args[j]? = some v → Value.okWide Tryd.prog W .any base t v := hval0
  have hW' := hW
  obtain ⟨p, q, hA0, hV, rfl, hfz, hnd⟩ := hW
  have hA : DataW.TrodAll enc Tryd.prog W 0 (fun _ => true) true Tryd.f6.params.toList args.toList ds p := hA0
  rw [Tryd.params6] at hA hval hsz
  obtain ⟨v0, vs0, d0, ds0, p0, q0, hargs, rfl, rfl, h0, r0⟩ := trodAll_cons hA
  obtain ⟨rfl, rfl, rfl⟩ := trodAll_nil r0
  obtain rfl : args = #[v0] := by cases args; simp_all
  obtain ⟨rfl, rfl⟩ := trodVars_none hV
  obtain ⟨a0, n0, c0, rfl⟩ := okWide_slice Tryd.underlying22 (hval 0 22 v0 rfl rfl)
  have k0 := h0
  have lt0 : ∀ x ∈ p0, x.block < W.heap.size := by obtain ⟨m, hm⟩ := k0; exact DataW.trod_lt m _ _ _ hm
  obtain ⟨z0, l0, cp0, cq0, nz0, rd0, wf0, bj0⟩ := Go.Proofs.YtpkhbglmbdpodaaDoor.O.open_isT Tryd.underlying22 Tryd.underlying5 (by kernel_rfl) h0
  have el0 := Go.Proofs.YtpkhbglmbdpodaaDoor.O.open_el Tryd.underlying22 Tryd.underlying5 (by kernel_rfl) k0
  clear hA0 hval0
  have r0 : z0.length * 1 ≤ 140737488351232 := by
    rcases el0 with h | ⟨es, sp, h, hle⟩
    · omega
    · have hr := sized_slice hsz (j := 0) (t := 22) (e := 5) (elems := es) (spare := sp) rfl (by simp [h]) Tryd.underlying22
      rw [show Tryd.prog.bytesOf 5 = 1 from by kernel_rfl] at hr
      simp only [reachBytes] at hr
      omega
  have tb := Go.Proofs.YtpkhbglmbdpodaaDoor.C.tab_of_laid hL
  refine (walk a0 n0 c0 z0 W tb l0 ⟨cp0, cq0⟩ nz0 rd0 wf0 r0).mono fun e W' ⟨he, bel⟩ => ?_
  subst he
  exact ⟨_, rfl, _, _, _, [], _, [], hW', trodAll_mk1 (shut_bool Tryd.underlying4 _), (trodAll_cons_mk (Below.trod Go.Proofs.YtpkhbglmbdpodaaDoor.O.laidOut (by kernel_rfl) (of_decide_eq_true (by kernel_rfl)) k0 bel lt0) trodAll_mk0), rfl, bel.frame _, fun h => by cases h⟩

theorem said : Rows.CrcResidueSaid :=
  OpenClaim.holds_of_cond 6 Tryd.f6 rfl rfl rfl rfl rfl rfl rfl ⟨rfl, rfl, rfl, rfl, rfl⟩ rfl rfl rfl rfl rfl (by kernel_rfl) Tryd.func6 (by kernel_rfl)
    (of_decide_eq_true (by kernel_rfl)) (by unfold Func.isWrapper; first | (rw [if_pos (by decide +kernel)]; kernel_rfl) | (rw [if_neg (by decide +kernel)]; exact ⟨rfl, rfl⟩))
    (fun os started H0 enc _ F0 => by rw [OpenClaim.pre_eq_preRow]; exact lifted os started H0 enc F0)
theorem plain (f : FuncId) (fn : Func) (hf : Tryd.pinned.checked.prog.funcNamed "perigee/perigeelaw03.CrcResidue" = some f) (hfn : Tryd.pinned.checked.prog.funcs[f]? = some fn) :
    false = Tryd.pinned.checked.prog.looks [] ∧ ∀ (j : Nat) t, fn.params[j]? = some t → Tryd.pinned.checked.prog.wantsStandIn t = false := by
  obtain rfl : f = 6 := Option.some.inj ((show Tryd.prog.funcNamed "perigee/perigeelaw03.CrcResidue" = some 6 by kernel_rfl).symm.trans hf) |>.symm
  obtain rfl : fn = Tryd.f6 := (Option.some.inj (Tryd.func6.symm.trans hfn)).symm
  refine ⟨by kernel_rfl, fun j t ht => ?_⟩
  rw [Tryd.params6] at ht
  have hm : t ∈ [22] := by simpa using Array.mem_of_getElem? ht
  have hall : ([22].all fun u => !Tryd.prog.wantsStandIn u) = true := by kernel_rfl
  exact (show Tryd.prog.wantsStandIn t = false by simpa using List.all_eq_true.1 hall t hm)
/-- ████ THE CARD ████ -/
theorem proved : Rows.CrcResidueCardSaid :=
  Claim7.holds_tied_plain_at .later [] _ _ _ _ said (fun _ h => by cases h) (by kernel_rfl) (fun _ h => by cases h) crcResidue_row_tie rfl ⟨rfl, rfl⟩ (by kernel_rfl) rfl plain (by kernel_rfl)
end Go.Proofs.YtpkhbglmbdpodaaDoor.crcResidue
