/-
  For every string, UnitParse returns true: Parse returns what the specification says.
-/
import Derived.Test.YthcehhonahgfmaaDoorULaw
namespace Go.Proofs.YthcehhonahgfmaaDoor.unitParse
open Go.ChangeShapes Go.WideShapes Go.ChangeAt Go.RowKit
open Go.ChangeMaps (open_string shut_string)
set_option linter.unusedVariables false

set_option maxRecDepth 100000 in
set_option maxHeartbeats 1000000 in
theorem walk (a0 : ByteArray) (w : World) (tb : U.Tab w) (r0 : a0.size ≤ 140737488351232) :
    Calls Tryd.prog 9 #[.string a0] w fun e w' => e = .returned (.bool true) ∧ Below w.heap.size w w' := by
  have TB := Lib.hid tb
  have HLV := Lib.hid (fun W (h : Below w.heap.size w W) => U.ulives_any W (TB.out.below h))
  have HP := Lib.hid (fun W (h : Below w.heap.size w W) => U.pparse_any a0 W (TB.out.below h) r0)
  have HR := Lib.hid (fun W => U.rparse_any a0 W r0)
  generalize U.parseT a0.toList = A at *
  obtain ⟨q, e⟩ := A
  dsimp only at HP HR
  clear tb r0
  go_enter Tryd.func9, Tryd.ntmps9
  go_wp2_with fail
  refine (HP.out _ (Below.refl w.heap.size w)).mono ?_
  rintro r w1 ⟨rfl, hB⟩
  obtain ⟨hc1, hf1⟩ := U.bcell hB
  have hsz := hB.size
  try simp at hsz
  clear hsz
  have HB1 := Lib.hid ((Below.refl w.heap.size w).trans (hB.mono (Below.refl w.heap.size w).size))
  clear hB
  go_wp2_with fail
  refine (HR.out _).mono ?_
  rintro r w2 ⟨rfl, hB⟩
  obtain ⟨hc2, hf2⟩ := U.bcell hB
  have hsz := hB.size
  try simp at hsz
  have hz2_0 : w1.heap.size < w2.heap.size := by omega
  clear hsz
  have HB2 := Lib.hid ((HB1.out.alloc HB1.out.size _).trans (hB.mono (HB1.out.alloc HB1.out.size _).size))
  clear hB
  go_wp2_with fail
  refine (HLV.out _ (HB2.out.alloc HB2.out.size _)).mono ?_
  rintro r w3 ⟨rfl, hB⟩
  have HB3 := Lib.hid ((HB2.out.alloc HB2.out.size _).trans (hB.mono (HB2.out.alloc HB2.out.size _).size))
  clear hB
  go_wp2_with fail
  go_ret
  exact ⟨rfl, HB3.out⟩

theorem reads (os : Os) {H0 : Type} (enc : TypeId × Value → H0) : ∃ places, DataW.whole enc Tryd.prog ((Go.Proofs.YthcehhonahgfmaaDoor.U.laidWorld os).forCall (fun _ _ => 0) ⟨#[], #[.string ByteArray.empty], []⟩).memory Tryd.f9.params.toList Rows.unitParseSpec.vars false (#[.string ByteArray.empty] : Array Value).toList 8 = some ([.lit (.string [])], [], places) :=
  ⟨[], by kernel_rfl⟩
set_option maxRecDepth 100000 in
theorem lifted (os : Os) (started : os.Started) (H0 : Type) (enc : TypeId × Value → H0) (F0 : Stop.Interp) :
    ReturnsInHanded {} Tryd.checked os 9 .any ((OpenSpec.ofChange Rows.unitParseSpec).preRow enc Tryd.prog Tryd.f9 Rows.unitParseRow.domain false Rows.unitParseRow.laid) (((OpenSpec.ofChange Rows.unitParseSpec).at F0).post enc Tryd.prog Tryd.f9 false true false false) := by
  obtain ⟨places, hx⟩ := reads os enc
  refine returnsInHanded_of_row (C := Tryd.checked) (s := (OpenSpec.ofChange Rows.unitParseSpec)) Go.Proofs.YthcehhonahgfmaaDoor.O.own started (by kernel_rfl) Tryd.func9
    (Go.Proofs.YthcehhonahgfmaaDoor.U.witness_sh (enc := enc) (C := Tryd.checked) false (Go.Proofs.YthcehhonahgfmaaDoor.U.laidWorld os) #[.string ByteArray.empty] (Go.Proofs.YthcehhonahgfmaaDoor.U.laid_os os) (World.shaped_of_ZipB (by kernel_rfl) (by kernel_rfl)) (by kernel_rfl)
      (OpenSpec.preRow_of_cond 8 hx (by kernel_rfl) (fun k hk => by cases hk) (by kernel_rfl) (Go.Proofs.YthcehhonahgfmaaDoor.U.laid_met os _))) ?_
  intro W base args ds gs before hval0 hW _ hk0 hsz0 hL hSh _
  have hsz : (DataW.weightsEach Tryd.prog (Tryd.f9.params.toList ++ (OpenSpec.ofChange Rows.unitParseSpec).bare.plain.varTypes Tryd.prog) (ds ++ gs)).all (· ≤ reachBytes) = true := hsz0
  clear hsz0
  have hval : ∀ (j : Nat) t v, Tryd.f9.params[j]? = some t → args[j]? = some v → Value.okWide Tryd.prog W .any base t v := hval0
  have hW' := hW
  obtain ⟨p, q, hA0, hV, rfl, hfz, hnd⟩ := hW
  have hA : DataW.TrodAll enc Tryd.prog W 0 (fun _ => true) true Tryd.f9.params.toList args.toList ds p := hA0
  rw [Tryd.params9] at hA hval hsz
  obtain ⟨v0, vs0, d0, ds0, p0, q0, hargs, rfl, rfl, h0, r0⟩ := trodAll_cons hA
  obtain ⟨rfl, rfl, rfl⟩ := trodAll_nil r0
  obtain rfl : args = #[v0] := by cases args; simp_all
  obtain ⟨rfl, rfl⟩ := trodVars_none hV
  obtain ⟨a0, rfl, rfl, rfl, w0⟩ := open_string Tryd.underlying9 (hval 0 9 v0 rfl rfl) h0
  clear hA0 hval0
  have r0 : a0.size ≤ 140737488351232 := by
    have h := sized_string hsz (j := 0) (t := 9) (bytes := a0.data.toList) rfl rfl
    have e : a0.data.toList.length = a0.size := by simp
    rw [e] at h
    simpa [reachBytes] using h
  have tb := Go.Proofs.YthcehhonahgfmaaDoor.U.tab_of_laid hL hSh
  refine (walk a0 W tb r0).mono fun e W' ⟨he, bel⟩ => ?_
  subst he
  exact ⟨_, rfl, _, _, _, [], _, [], hW', trodAll_mk1 (shut_bool Tryd.underlying4 _), (trodAll_cons_mk (shut_string Tryd.underlying9 w0) trodAll_mk0), rfl, bel.frame _, fun h => by cases h⟩

theorem said : Rows.UnitParseSaid :=
  OpenClaim.holds_of_cond 9 Tryd.f9 rfl rfl rfl rfl rfl rfl rfl ⟨rfl, rfl, rfl, rfl, rfl⟩ rfl rfl rfl rfl rfl (by kernel_rfl) Tryd.func9 (by kernel_rfl)
    (of_decide_eq_true (by kernel_rfl)) (by unfold Func.isWrapper; first | (rw [if_pos (by decide +kernel)]; kernel_rfl) | (rw [if_neg (by decide +kernel)]; exact ⟨rfl, rfl⟩))
    (fun os started H0 enc _ F0 => by rw [OpenClaim.pre_eq_preRow]; exact lifted os started H0 enc F0)
theorem plain (f : FuncId) (fn : Func) (hf : Tryd.pinned.checked.prog.funcNamed "perigee/perigeelaw04.UnitParse" = some f) (hfn : Tryd.pinned.checked.prog.funcs[f]? = some fn) :
    true = Tryd.pinned.checked.prog.looks [] ∧ ∀ (j : Nat) t, fn.params[j]? = some t → Tryd.pinned.checked.prog.wantsStandIn t = false := by
  obtain rfl : f = 9 := Option.some.inj ((show Tryd.prog.funcNamed "perigee/perigeelaw04.UnitParse" = some 9 by kernel_rfl).symm.trans hf) |>.symm
  obtain rfl : fn = Tryd.f9 := (Option.some.inj (Tryd.func9.symm.trans hfn)).symm
  refine ⟨by kernel_rfl, fun j t ht => ?_⟩
  rw [Tryd.params9] at ht
  have hm : t ∈ [9] := by simpa using Array.mem_of_getElem? ht
  have hall : ([9].all fun u => !Tryd.prog.wantsStandIn u) = true := by kernel_rfl
  exact (show Tryd.prog.wantsStandIn t = false by simpa using List.all_eq_true.1 hall t hm)
/-- ████ THE CARD ████ -/
theorem proved : Rows.UnitParseCardSaid :=
  Claim7.holds_tied_plain_at .later [] _ _ _ _ said (fun _ h => by cases h) (by kernel_rfl) (fun _ h => by cases h) unitParse_row_tie rfl ⟨rfl, rfl⟩ (by kernel_rfl) rfl plain (by kernel_rfl)
end Go.Proofs.YthcehhonahgfmaaDoor.unitParse
