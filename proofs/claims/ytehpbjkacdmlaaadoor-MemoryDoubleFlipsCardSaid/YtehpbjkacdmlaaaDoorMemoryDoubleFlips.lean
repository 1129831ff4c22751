/-
  For every two words and all two numbers of bits, MemoryDoubleFlips returns true: after two different bits of a word were flipped Read returns ErrFlip, the scrubber counts the word as bad and does not change it, flipping one of them back makes it readable, and so does writing it; and the chapter's examples hold.
-/
import Derived.Test.YtehpbjkacdmlaaaDoorMLives
import Derived.Test.YtehpbjkacdmlaaaDoorMDbl
import Derived.Deep.DeepCutAuto
import Derived.Deep.RegionHeld3
import Derived.Deep.LoopGhost
import Derived.Deep.QuietTactic
namespace Go.Proofs.YtehpbjkacdmlaaaDoor.memoryDoubleFlips
open Go.ChangeShapes Go.WideShapes Go.ChangeAt Go.RowKit
open Go.ChangeMaps (open_string shut_string)
set_option linter.unusedVariables false

set_option maxRecDepth 100000 in
set_option maxHeartbeats 1000000 in
theorem walk (a0 : Int) (a1 : Int) (a2 : Int) (a3 : Int) (w : World) (tb : E.Tab w) (w0 : (Lit.int .u32 a0).wf = true) (w1 : (Lit.int .u32 a1).wf = true) (w2 : (Lit.int .u8 a2).wf = true) (w3 : (Lit.int .u8 a3).wf = true) :
    Calls Tryd.prog 7 #[.int .u32 a0, .int .u32 a1, .int .u8 a2, .int .u8 a3] w fun e w' => e = .returned (.bool true) ∧ Below w.heap.size w w' := by
  obtain ⟨x, rfl, hx⟩ := M.u32_nat_of w0
  obtain ⟨y, rfl, hy⟩ := M.u32_nat_of w1
  obtain ⟨i, rfl, hi⟩ := M.u8_nat_of w2
  obtain ⟨k, rfl, hk⟩ := M.u8_nat_of w3
  have TB := Lib.hid tb
  obtain ⟨p, hp⟩ : ∃ p, i % 39 = p := ⟨_, rfl⟩
  obtain ⟨q, hq⟩ : ∃ q, k % 39 = q := ⟨_, rfl⟩
  have hp39 : p < 39 := by omega
  have hq39 : q < 39 := by omega
  have ep : (i : Int) % 39 = (p : Int) := by omega
  have eq : (k : Int) % 39 = (q : Int) := by omega
  have HX := Lib.hid (And.intro hx hy)
  clear w0 w1 w2 w3 tb hp hq hx hy
  by_cases hpq : p = q
  · subst hpq
    clear hp39 hq39
    go_enter Tryd.func7, Tryd.ntmps7
    go_wp2_with fail
    refine (M.made_any 3 (by decide) (by decide) _ TB.out).mono ?_
    rintro r w0 ⟨b, v, rfl, hm⟩
    have M0 : Hid (M.Made M.PM w w0 b v (M.Mem.new 3)) := Lib.hid hm
    clear hm
    go_wp2_with fail
    refine (M.plives_any _ (M0.out.tab TB.out)).mono ?_
    rintro r wl ⟨rfl, hl⟩
    go_wp2_with fail
    go_ret
    exact ⟨rfl, M0.out.2.2.trans (hl.mono M0.out.2.2.size)⟩
  · have DF := Lib.hid (M.df HX.out.1 HX.out.2 hp39 hq39 hpq)
    have hne : ((p : Int) == (q : Int)) = false := by simp; omega
    clear hpq hp39 hq39
    go_enter Tryd.func7, Tryd.ntmps7
    go_wp2_with fail
    refine (M.made_any 3 (by decide) (by decide) _ TB.out).mono ?_
    rintro r w0 ⟨b, v, rfl, hm⟩
    have M0 : Hid (M.Made M.PM w w0 b v (M.Mem.new 3)) := Lib.hid hm
    clear hm
    go_wp2_with fail
    refine (M.pwrite_any M0.out.1 DF.out.ok0 (M0.out.tab TB.out) (by decide) 1 x HX.out.1).mono ?_
    rintro r w1 ⟨hr, hp, hs⟩
    have M1 : Hid (M.Made M.PM w w1 b v (M.D1 x)) := Lib.hid (M0.out.step hp hs)
    subst hr
    clear hp hs M0
    go_wp2_with fail
    refine (M.pflip_mem M1.out.1 DF.out.ok1 1 p).mono ?_
    rintro r w2 ⟨hr, hp, hs⟩
    have M2 : Hid (M.Made M.PM w w2 b v ((M.D1 x).flip 1 p)) := Lib.hid (M1.out.step hp hs)
    subst hr
    clear hp hs M1
    go_wp2_with fail
    refine (M.pflip_mem M2.out.1 DF.out.ok2 1 q).mono ?_
    rintro r w3 ⟨hr, hp, hs⟩
    have M3 : Hid (M.Made M.PM w w3 b v (M.D3 x p q)) := Lib.hid (M2.out.step hp hs)
    subst hr
    clear hp hs M2
    go_wp2_with fail
    refine (M.pread_any M3.out.1 DF.out.ok3 (M3.out.tab TB.out) 1).mono ?_
    rintro r wn ⟨hr, nn, hwn⟩
    rw [DF.out.read3] at hr
    subst hr
    have M4 : Hid (M.Made M.PM w wn b v (M.D3 x p q)) := Lib.hid (by rw [hwn]; exact M3.out.drewN nn)
    clear hwn M3
    obtain ⟨w4, hw⟩ : ∃ W1, W1 = wn := ⟨_, rfl⟩
    subst hw
    go_wp2_with fail
    refine (M.pscrub_any M4.out.1 DF.out.ok3 (M4.out.tab TB.out) 3).mono ?_
    rintro r w5 ⟨hr, hp, hs⟩
    rw [DF.out.turns, DF.out.one, DF.out.two] at hr
    have M5 : Hid (M.Made M.PM w w5 b v (M.D4 x p q)) := Lib.hid (M4.out.step hp hs)
    have NF : Hid (¬ H.FT b v w5.heap.size) := Lib.hid (fun h => by have := hp.lt _ h; omega)
    subst hr
    clear hp hs M4
    go_wp2_with fail
    refine (M.pread_any (M5.out.keep ((Below.refl _ _).alloc (Nat.le_refl _) _)).1 DF.out.ok4 ((M5.out.keep ((Below.refl _ _).alloc (Nat.le_refl _) _)).tab TB.out) 1).mono ?_
    rintro r wn ⟨hr, nn, hwn⟩
    rw [DF.out.read4] at hr
    subst hr
    have M6 : Hid (M.Made M.PM w wn b v (M.D4 x p q)) := Lib.hid (by rw [hwn]; exact (M5.out.keep ((Below.refl _ _).alloc (Nat.le_refl _) _)).drewN nn)
    have Z6 : Hid (wn.heap[w5.heap.size]? = some (.cells #[.int .i64 3, .int .i64 0, .int .i64 1] 54 (0, 0))) := Lib.hid (by rw [hwn]; exact heap_alloc_new w5 _)
    clear hwn M5
    obtain ⟨w6, hw⟩ : ∃ W1, W1 = wn := ⟨_, rfl⟩
    subst hw
    go_wp2_with fail
    refine (M.pflip_mem M6.out.1 DF.out.ok4 1 q).mono ?_
    rintro r w7 ⟨hr, hp, hs⟩
    have M7 : Hid (M.Made M.PM w w7 b v (M.D5 x p q)) := Lib.hid (M6.out.step hp hs)
    have Z7 := Lib.hid ((hs.block _ (H.blk_lt Z6.out) NF.out).trans Z6.out)
    clear Z6
    subst hr
    clear hp hs M6
    go_wp2_with fail
    refine (M.pread_any M7.out.1 DF.out.ok5 (M7.out.tab TB.out) 1).mono ?_
    rintro r wn ⟨hr, nn, hwn⟩
    rw [DF.out.read5] at hr
    subst hr
    have M8 : Hid (M.Made M.PM w wn b v (M.D5 x p q)) := Lib.hid (by rw [hwn]; exact M7.out.drewN nn)
    have Z8 : Hid (wn.heap[w5.heap.size]? = some (.cells #[.int .i64 3, .int .i64 0, .int .i64 1] 54 (0, 0))) := Lib.hid (by rw [hwn]; exact Z7.out)
    clear hwn M7 Z7
    obtain ⟨w8, hw⟩ : ∃ W1, W1 = wn := ⟨_, rfl⟩
    subst hw
    go_wp2_with fail
    refine (M.pflip_mem M8.out.1 DF.out.ok5 1 q).mono ?_
    rintro r w9 ⟨hr, hp, hs⟩
    have M9 : Hid (M.Made M.PM w w9 b v (M.D6 x p q)) := Lib.hid (M8.out.step hp hs)
    have Z9 := Lib.hid ((hs.block _ (H.blk_lt Z8.out) NF.out).trans Z8.out)
    clear Z8
    subst hr
    clear hp hs M8
    go_wp2_with fail
    refine (M.pwrite_any M9.out.1 DF.out.ok6 (M9.out.tab TB.out) DF.out.count 1 y HX.out.2).mono ?_
    rintro r w10 ⟨hr, hp, hs⟩
    rw [DF.out.write6] at hr
    have M10 : Hid (M.Made M.PM w w10 b v (M.D7 x y p q)) := Lib.hid (M9.out.step hp hs)
    have Z10 := Lib.hid ((hs.block _ (H.blk_lt Z9.out) NF.out).trans Z9.out)
    clear Z9
    subst hr
    clear hp hs M9
    go_wp2_with fail
    refine (M.pread_any M10.out.1 DF.out.ok7 (M10.out.tab TB.out) 1).mono ?_
    rintro r wn ⟨hr, nn, hwn⟩
    rw [DF.out.read7] at hr
    subst hr
    have M11 : Hid (M.Made M.PM w wn b v (M.D7 x y p q)) := Lib.hid (by rw [hwn]; exact M10.out.drewN nn)
    have Z11 : Hid (wn.heap[w5.heap.size]? = some (.cells #[.int .i64 3, .int .i64 0, .int .i64 1] 54 (0, 0))) := Lib.hid (by rw [hwn]; exact Z10.out)
    clear hwn M10 Z10
    obtain ⟨w11, hw⟩ : ∃ W1, W1 = wn := ⟨_, rfl⟩
    subst hw
    have z0 := H.blk_cell Z11.out 0
    have z1 := H.blk_cell Z11.out 1
    have z2 := H.blk_cell Z11.out 2
    simp only [List.getElem?_toArray, List.getElem?_cons_succ, List.getElem?_cons_zero] at z0 z1 z2
    go_wp2_with fail
    refine (M.plives_any _ (M11.out.tab TB.out)).mono ?_
    rintro r wl ⟨rfl, hl⟩
    go_wp2_with fail
    go_ret
    exact ⟨rfl, M11.out.2.2.trans (hl.mono M11.out.2.2.size)⟩

theorem reads (os : Os) {H0 : Type} (enc : TypeId × Value → H0) : ∃ places, DataW.whole enc Tryd.prog ((Go.Proofs.YtehpbjkacdmlaaaDoor.E.laidWorld os).forCall (fun _ _ => 0) ⟨#[], #[.int .u32 0, .int .u32 0, .int .u8 0, .int .u8 0], []⟩).memory Tryd.f7.params.toList Rows.memoryDoubleFlipsSpec.vars false (#[.int .u32 0, .int .u32 0, .int .u8 0, .int .u8 0] : Array Value).toList 8 = some ([.lit (.int .u32 0), .lit (.int .u32 0), .lit (.int .u8 0), .lit (.int .u8 0)], [], places) :=
  ⟨[], by kernel_rfl⟩
set_option maxRecDepth 100000 in
theorem lifted (os : Os) (started : os.Started) (H0 : Type) (enc : TypeId × Value → H0) (F0 : Stop.Interp) :
    ReturnsInHanded {} Tryd.checked os 7 .any ((OpenSpec.ofChange Rows.memoryDoubleFlipsSpec).preRow enc Tryd.prog Tryd.f7 Rows.memoryDoubleFlipsRow.domain false Rows.memoryDoubleFlipsRow.laid) (((OpenSpec.ofChange Rows.memoryDoubleFlipsSpec).at F0).post enc Tryd.prog Tryd.f7 false true false false) := by
  obtain ⟨places, hx⟩ := reads os enc
  refine returnsInHanded_of_row (C := Tryd.checked) (s := (OpenSpec.ofChange Rows.memoryDoubleFlipsSpec)) Go.Proofs.YtehpbjkacdmlaaaDoor.O.own started (by kernel_rfl) Tryd.func7
    (witness_row_at (enc := enc) (C := Tryd.checked) false (Go.Proofs.YtehpbjkacdmlaaaDoor.E.laidWorld os) #[.int .u32 0, .int .u32 0, .int .u8 0, .int .u8 0] rfl (by kernel_rfl) (by kernel_rfl) (by kernel_rfl)
      (OpenSpec.preRow_of_cond 8 hx (by kernel_rfl) (fun k hk => by cases hk) (by kernel_rfl) (Go.Proofs.YtehpbjkacdmlaaaDoor.E.laid_met os _))) ?_
  intro W base args ds gs before hval0 hW _ hk0 hsz0 hL _ _
  have hsz : (DataW.weightsEach Tryd.prog (Tryd.f7.params.toList ++ (OpenSpec.ofChange Rows.memoryDoubleFlipsSpec).bare.plain.varTypes Tryd.prog) (ds ++ gs)).all (· ≤ reachBytes) = true := hsz0
  clear hsz0
  have hval : ∀ (j : Nat) t v, Tryd.f7.params[j]? = some t → args[j]? = some v → Value.okWide Tryd.prog W .any base t v := hval0
  have hW' := hW
  obtain ⟨p, q, hA0, hV, rfl, hfz, hnd⟩ := hW
  have hA : DataW.TrodAll enc Tryd.prog W 0 (fun _ => true) true Tryd.f7.params.toList args.toList ds p := hA0
  rw [Tryd.params7] at hA hval hsz
  obtain ⟨v0, vs0, d0, ds0, p0, q0, hargs, rfl, rfl, h0, r0⟩ := trodAll_cons hA
  obtain ⟨v1, vs1, d1, ds1, p1, q1, rfl, rfl, rfl, h1, r1⟩ := trodAll_cons r0
  obtain ⟨v2, vs2, d2, ds2, p2, q2, rfl, rfl, rfl, h2, r2⟩ := trodAll_cons r1
  obtain ⟨v3, vs3, d3, ds3, p3, q3, rfl, rfl, rfl, h3, r3⟩ := trodAll_cons r2
  obtain ⟨rfl, rfl, rfl⟩ := trodAll_nil r3
  obtain rfl : args = #[v0, v1, v2, v3] := by cases args; simp_all
  obtain ⟨rfl, rfl⟩ := trodVars_none hV
  obtain ⟨a0, rfl, rfl, rfl, w0⟩ := open_int Tryd.underlying33 (hval 0 33 v0 rfl rfl) h0
  obtain ⟨a1, rfl, rfl, rfl, w1⟩ := open_int Tryd.underlying33 (hval 1 33 v1 rfl rfl) h1
  obtain ⟨a2, rfl, rfl, rfl, w2⟩ := open_int Tryd.underlying5 (hval 2 5 v2 rfl rfl) h2
  obtain ⟨a3, rfl, rfl, rfl, w3⟩ := open_int Tryd.underlying5 (hval 3 5 v3 rfl rfl) h3
  clear hA0 hval0
  have tb := Go.Proofs.YtehpbjkacdmlaaaDoor.E.tab_of_laid hL
  refine (walk a0 a1 a2 a3 W tb w0 w1 w2 w3).mono fun e W' ⟨he, bel⟩ => ?_
  subst he
  exact ⟨_, rfl, _, _, _, [], _, [], hW', trodAll_mk1 (shut_bool Tryd.underlying4 _), (trodAll_cons_mk (shut_int Tryd.underlying33 w0) (trodAll_cons_mk (shut_int Tryd.underlying33 w1) (trodAll_cons_mk (shut_int Tryd.underlying5 w2) (trodAll_cons_mk (shut_int Tryd.underlying5 w3) trodAll_mk0)))), rfl, bel.frame _, fun h => by cases h⟩

theorem said : Rows.MemoryDoubleFlipsSaid :=
  OpenClaim.holds_of_cond 7 Tryd.f7 rfl rfl rfl rfl rfl rfl rfl ⟨rfl, rfl, rfl, rfl, rfl⟩ rfl rfl rfl rfl rfl (by kernel_rfl) Tryd.func7 (by kernel_rfl)
    (of_decide_eq_true (by kernel_rfl)) (by unfold Func.isWrapper; first | (rw [if_pos (by decide +kernel)]; kernel_rfl) | (rw [if_neg (by decide +kernel)]; exact ⟨rfl, rfl⟩))
    (fun os started H0 enc _ F0 => by rw [OpenClaim.pre_eq_preRow]; exact lifted os started H0 enc F0)
theorem plain (f : FuncId) (fn : Func) (hf : Tryd.pinned.checked.prog.funcNamed "perigee/perigeelaw06.MemoryDoubleFlips" = some f) (hfn : Tryd.pinned.checked.prog.funcs[f]? = some fn) :
    false = Tryd.pinned.checked.prog.looks [] ∧ ∀ (j : Nat) t, fn.params[j]? = some t → Tryd.pinned.checked.prog.wantsStandIn t = false := by
  obtain rfl : f = 7 := Option.some.inj ((show Tryd.prog.funcNamed "perigee/perigeelaw06.MemoryDoubleFlips" = some 7 by kernel_rfl).symm.trans hf) |>.symm
  obtain rfl : fn = Tryd.f7 := (Option.some.inj (Tryd.func7.symm.trans hfn)).symm
  refine ⟨by kernel_rfl, fun j t ht => ?_⟩
  rw [Tryd.params7] at ht
  have hm : t ∈ [33, 33, 5, 5] := by simpa using Array.mem_of_getElem? ht
  have hall : ([33, 33, 5, 5].all fun u => !Tryd.prog.wantsStandIn u) = true := by kernel_rfl
  exact (show Tryd.prog.wantsStandIn t = false by simpa using List.all_eq_true.1 hall t hm)
/-- ████ THE CARD ████ -/
theorem proved : Rows.MemoryDoubleFlipsCardSaid :=
  Claim7.holds_tied_plain_at .later [] _ _ _ _ said (fun _ h => by cases h) (by kernel_rfl) (fun _ h => by cases h) memoryDoubleFlips_row_tie rfl ⟨rfl, rfl⟩ (by kernel_rfl) rfl plain (by kernel_rfl)
end Go.Proofs.YtehpbjkacdmlaaaDoor.memoryDoubleFlips
