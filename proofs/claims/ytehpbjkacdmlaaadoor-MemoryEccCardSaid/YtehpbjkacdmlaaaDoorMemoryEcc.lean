/-
  For every word and every list of bytes, MemoryEcc returns true: for at most 40 bits that are flipped one after the other in a stored word, Read returns what ecc.Decode returns for the code word with these bits flipped; and the chapter's examples hold.
-/
import Derived.Test.YtehpbjkacdmlaaaDoorMLives
import Derived.Test.YtehpbjkacdmlaaaDoorMDbl
import Derived.Deep.DeepCutAuto
import Derived.Deep.RegionHeld3
import Derived.Deep.LoopGhost
import Derived.Deep.QuietTactic
namespace Go.Proofs.YtehpbjkacdmlaaaDoor.memoryEcc
open Go.ChangeShapes Go.WideShapes Go.ChangeAt Go.RowKit
open Go.ChangeMaps (open_string shut_string)
set_option linter.unusedVariables false

set_option maxRecDepth 100000 in
set_option maxHeartbeats 1000000 in
theorem walk (a0 : Int) (a1 : Option Addr) (n1 c1 : Nat) (z1 : List Int) (w : World) (tb : E.Tab w) (w0 : (Lit.int .u32 a0).wf = true) (l1 : z1.length = n1) (cp1 : n1 ≤ c1 ∧ c1 ≤ maxLen) (nz1 : a1 = none → c1 = 0) (rd1 : H.RdI w w.heap.size .u8 a1 z1) (wf1 : ∀ n ∈ z1, (Lit.int .u8 n).wf = true) (r1 : z1.length * 1 ≤ 140737488351232) :
    Calls Tryd.prog 10 #[.int .u32 a0, .slice a1 n1 c1] w fun e w' => e = .returned (.bool true) ∧ Below w.heap.size w w' := by
  obtain ⟨x, rfl, hx⟩ := M.u32_nat_of w0
  have hz : ∀ k, k < n1 → ∃ q : Nat, z1[k]?.getD 0 = q ∧ q < 256 := fun k hk => by
    obtain ⟨y, hy⟩ : ∃ y, z1[k]? = some y := ⟨_, List.getElem?_eq_getElem (by omega)⟩
    rw [hy]
    exact M.u8_nat_of (wf1 y (List.mem_of_getElem? hy))
  have TB := Lib.hid tb
  have HZ := Lib.hid hz
  have HR := Lib.hid rd1
  have HL := Lib.hid l1
  have HX := Lib.hid hx
  clear tb hz rd1 l1 wf1 cp1 nz1 r1 w0 hx
  go_enter Tryd.func10, Tryd.ntmps10
  go_wp2_with fail
  refine (M.made_any 1 (by decide) (by decide) _ TB.out).mono ?_
  rintro r w0 ⟨b, v, rfl, hm⟩
  have M0 : Hid (M.Made M.PM w w0 b v (M.Mem.new 1)) := Lib.hid hm
  clear hm
  by_cases hbig : (40 : Int) < (n1 : Int)
  · go_wp2_with fail
    refine (M.plives_any _ (M0.out.tab TB.out)).mono ?_
    rintro r wl ⟨rfl, hl⟩
    have HB := Lib.hid (M0.out.2.2.trans (hl.mono M0.out.2.2.size))
    clear hl
    go_wp2_with fail
    go_ret
    exact ⟨rfl, HB.out⟩
  · have hn40 : n1 ≤ 40 := by omega
    have hE := E.penc_any x HX.out w0 (M0.out.tab TB.out)
    have HE := Lib.hid hE
    clear hE
    go_wp2_with fail
    refine HE.out.mono ?_
    rintro r wn ⟨rfl, nn, hwn⟩
    have M1 : Hid (M.Made M.PM w wn b v (M.Mem.new 1)) := Lib.hid (by rw [hwn]; exact M0.out.drewN nn)
    clear hwn HE M0
    go_wp2_with fail
    refine (M.pwrite_any M1.out.1 (M.new_ok (by decide) (by decide)) (M1.out.tab TB.out) (by decide) 0 x HX.out).mono ?_
    rintro r w2 ⟨hr, hp, hs⟩
    have hE0 : (M.Mem.new 1).writeE 0 = 0 := M.writeE_ok (m := M.Mem.new 1) (a := 0) (by decide) rfl
    rw [hE0] at hr
    have hat : ((M.Mem.new 1).write 0 x).at 0 = E.enc x := (M.at_write (m := M.Mem.new 1) (a := 0) (by decide) rfl x 0).trans (if_pos rfl)
    have M2 : Hid (M.Made M.PM w w2 b v ((M.Mem.new 1).write 0 x)) := Lib.hid (M1.out.step hp hs)
    have F2 := Lib.hid (And.intro (M.write_ok (M.new_ok (by decide) (by decide)) 0 HX.out : ((M.Mem.new 1).write 0 x).ok) (And.intro (M.len_write (M.Mem.new 1) 0 x : ((M.Mem.new 1).write 0 x).code.length = 1) hat))
    subst hr
    clear hp hs M1 hE0 hat
    go_wp2_with fail
    go_loopg [7, 6, 8, 9, 10, 11, 12] n1 (fun g i c _ _ _ _ _ wr => ∃ (k : Nat) (m : M.Mem), k + g = n1 ∧ i = .int .i64 (k : Nat) ∧ c = .int .u64 (m.at 0 : Nat) ∧ M.Made M.PM w wr b v m ∧ m.ok ∧ m.code.length = 1)
    case atStart => exact ⟨0, _, Nat.zero_add _, rfl, by rw [F2.out.2.2], M2.out, F2.out.1, F2.out.2.1⟩
    case round =>
      obtain ⟨k, m, hg, rfl, rfl, hmd, hok, hlen⟩ := hrel
      have HG := Lib.hid hg
      have HM := Lib.hid (And.intro hmd (And.intro hok hlen))
      have hk : k ≤ n1 := by omega
      have hc39 := hok.small 0
      clear hg hmd hok hlen
      by_cases hlt : k < n1
      · obtain ⟨ad, rfl, _, hcell⟩ := (HR.out.below HM.out.1.2.2) k (by rw [HL.out]; exact hlt)
        obtain ⟨q, hq, hq256⟩ := HZ.out k hlt
        rw [hq] at hcell
        obtain ⟨p, hp⟩ : ∃ p, q % 39 = p := ⟨_, rfl⟩
        have hp39 : p < 39 := by omega
        have ep : (q : Int) % 39 = (p : Int) := by omega
        have hki : (k : Int) < (n1 : Int) := by omega
        have hk0 : (0 : Int) ≤ (k : Int) := by omega
        have hfl := E.flip_in (m.at 0) (b := p) (by omega)
        have hF := fun W => E.pflip_any (m.at 0) p (by omega) W
        rw [hfl] at hF
        have hat : (m.flip 0 p).at 0 = m.at 0 ^^^ 2 ^ p := (M.at_flip (m := m) (a := 0) (b := p) (by rw [HM.out.2.2]; decide) (by omega) 0).trans (if_pos rfl)
        have hfe : m.flipE 0 p = 0 := M.flipE_ok (m := m) (a := 0) (b := p) (by rw [HM.out.2.2]; decide) (by omega)
        have hlen2 : (m.flip 0 p).code.length = 1 := (M.len_flip m 0 p).trans HM.out.2.2
        have hok2 : (m.flip 0 p).ok := M.flip_ok HM.out.2.1 0 p
        have hrd : (m.flip 0 p).readR 0 = if (E.dec ((m.flip 0 p).at 0)).2 = 2 then (0, 20) else ((E.dec ((m.flip 0 p).at 0)).1, 0) := M.read_at (m := m.flip 0 p) (a := 0) (by rw [hlen2]; decide)
        rw [hat] at hrd
        have hlt2 : m.at 0 ^^^ 2 ^ p < 18446744073709551616 := by
          have := hok2.small 0
          rw [hat] at this
          omega
        have HF := Lib.hid hF
        have HFM := Lib.hid (fun W (h : M.Made M.PM w W b v m) => M.pflip_mem h.1 HM.out.2.1 0 p)
        rw [hfe] at HFM
        have HRD := Lib.hid (fun W (h : M.Made M.PM w W b v (m.flip 0 p)) => M.pread_any h.1 hok2 (h.tab TB.out) 0)
        have HD := Lib.hid (fun W (h : M.Made M.PM w W b v (m.flip 0 p)) => E.pdec_any (m.at 0 ^^^ 2 ^ p) hlt2 W (h.tab TB.out))
        have HN := Lib.hid (And.intro hok2 (And.intro hlen2 hat))
        have HLT := Lib.hid hlt
        clear hp hc39 hfl hF hfe hok2 hlen2 hlt2 hlt hat hq
        generalize m.at 0 ^^^ 2 ^ p = c at *
        by_cases h2 : (E.dec c).2 = 2
        · rw [if_pos h2] at hrd
          have HH := Lib.hid hrd
          clear hrd
          have h2i : (((E.dec c).2 : Nat) : Int) = 2 := by omega
          have HDE := Lib.hid h2i
          clear h2 h2i
          go_wp2_with fail
          refine (HF.out _).mono ?_
          rintro r wf ⟨rfl, hwf⟩
          subst hwf
          go_wp2_with fail
          refine (HFM.out _ HM.out.1).mono ?_
          rintro r w4 ⟨rfl, hp, hs⟩
          have M4 := Lib.hid (HM.out.1.step hp hs)
          clear hp hs
          go_wp2_with fail
          refine (HRD.out _ M4.out).mono ?_
          rintro r wn ⟨hr, nn, hwn⟩
          rw [HH.out] at hr
          subst hr
          have M5 : Hid (M.Made M.PM w wn b v (m.flip 0 p)) := Lib.hid (by rw [hwn]; exact M4.out.drewN nn)
          clear hwn
          go_wp2_with fail
          refine (HD.out _ M5.out).mono ?_
          rintro r w6 ⟨hr, hw6⟩
          rw [HDE.out] at hr
          subst hr
          subst hw6
          go_wp2_with fail
          go_roundg (gk - 1)
          case measure => have := HG.out; have := HLT.out; omega
          case rel => exact ⟨k + 1, _, by have := HG.out; have := HLT.out; omega, by go_num, by rw [HN.out.2.2], M5.out, HN.out.1, HN.out.2.1⟩
        · rw [if_neg h2] at hrd
          have HH := Lib.hid hrd
          have h2i : (((E.dec c).2 : Nat) : Int) ≠ 2 := by omega
          have h2b : ((((E.dec c).2 : Nat) : Int) == 2) = false := by simpa using h2i
          have h2n : ((((E.dec c).2 : Nat) : Int) != 2) = true := by simpa using h2i
          clear hrd h2 h2i
          generalize E.dec c = d at *
          obtain ⟨d1, d2⟩ := d
          dsimp only at *
          go_wp2_with fail
          refine (HF.out _).mono ?_
          rintro r wf ⟨rfl, hwf⟩
          subst hwf
          go_wp2_with fail
          refine (HFM.out _ HM.out.1).mono ?_
          rintro r w4 ⟨rfl, hp, hs⟩
          have M4 := Lib.hid (HM.out.1.step hp hs)
          clear hp hs
          go_wp2_with fail
          refine (HRD.out _ M4.out).mono ?_
          rintro r wn ⟨hr, nn, hwn⟩
          rw [HH.out] at hr
          subst hr
          have M5 : Hid (M.Made M.PM w wn b v (m.flip 0 p)) := Lib.hid (by rw [hwn]; exact M4.out.drewN nn)
          clear hwn
          go_wp2_with fail
          refine (HD.out _ M5.out).mono ?_
          rintro r w6 ⟨hr, hw6⟩
          subst hr
          subst hw6
          go_wp2_with fail
          go_roundg (gk - 1)
          case measure => have := HG.out; have := HLT.out; omega
          case rel => exact ⟨k + 1, _, by have := HG.out; have := HLT.out; omega, by go_num, by rw [HN.out.2.2], M5.out, HN.out.1, HN.out.2.1⟩
      · obtain rfl : k = n1 := by omega
        have hki : ¬ (k : Int) < (k : Int) := by omega
        clear hlt hk
        go_wp2_with fail
        refine (M.plives_any _ (HM.out.1.tab TB.out)).mono ?_
        rintro r wl ⟨rfl, hl⟩
        have HB := Lib.hid (HM.out.1.2.2.trans (hl.mono HM.out.1.2.2.size))
        clear hl
        go_wp2_with fail
        go_ret
        exact ⟨rfl, HB.out⟩

theorem reads (os : Os) {H0 : Type} (enc : TypeId × Value → H0) : ∃ places, DataW.whole enc Tryd.prog ((Go.Proofs.YtehpbjkacdmlaaaDoor.E.laidWorld os).forCall (fun _ _ => 0) ⟨#[], #[.int .u32 0, .slice none 0 0], []⟩).memory Tryd.f10.params.toList Rows.memoryEccSpec.vars false (#[.int .u32 0, .slice none 0 0] : Array Value).toList 8 = some ([.lit (.int .u32 0), .nil], [], places) :=
  ⟨[], by kernel_rfl⟩
set_option maxRecDepth 100000 in
theorem lifted (os : Os) (started : os.Started) (H0 : Type) (enc : TypeId × Value → H0) (F0 : Stop.Interp) :
    ReturnsInHanded {} Tryd.checked os 10 .any ((OpenSpec.ofChange Rows.memoryEccSpec).preRow enc Tryd.prog Tryd.f10 Rows.memoryEccRow.domain false Rows.memoryEccRow.laid) (((OpenSpec.ofChange Rows.memoryEccSpec).at F0).post enc Tryd.prog Tryd.f10 false true false false) := by
  obtain ⟨places, hx⟩ := reads os enc
  refine returnsInHanded_of_row (C := Tryd.checked) (s := (OpenSpec.ofChange Rows.memoryEccSpec)) Go.Proofs.YtehpbjkacdmlaaaDoor.O.own started (by kernel_rfl) Tryd.func10
    (witness_row_at (enc := enc) (C := Tryd.checked) false (Go.Proofs.YtehpbjkacdmlaaaDoor.E.laidWorld os) #[.int .u32 0, .slice none 0 0] rfl (by kernel_rfl) (by kernel_rfl) (by kernel_rfl)
      (OpenSpec.preRow_of_cond 8 hx (by kernel_rfl) (fun k hk => by cases hk) (by kernel_rfl) (Go.Proofs.YtehpbjkacdmlaaaDoor.E.laid_met os _))) ?_
  intro W base args ds gs before hval0 hW _ hk0 hsz0 hL _ _
  have hsz : (DataW.weightsEach Tryd.prog (Tryd.f10.params.toList ++ (OpenSpec.ofChange Rows.memoryEccSpec).bare.plain.varTypes Tryd.prog) (ds ++ gs)).all (· ≤ reachBytes) = true := hsz0
  clear hsz0
  have hval : ∀ (j : Nat) t v, Tryd.f10.params[j]? = some t → args[j]? = some v → Value.okWide Tryd.prog W .any base t v := hval0
  have hW' := hW
  obtain ⟨p, q, hA0, hV, rfl, hfz, hnd⟩ := hW
  have hA : DataW.TrodAll enc Tryd.prog W 0 (fun _ => true) true Tryd.f10.params.toList args.toList ds p := hA0
  rw [Tryd.params10] at hA hval hsz
  obtain ⟨v0, vs0, d0, ds0, p0, q0, hargs, rfl, rfl, h0, r0⟩ := trodAll_cons hA
  obtain ⟨v1, vs1, d1, ds1, p1, q1, rfl, rfl, rfl, h1, r1⟩ := trodAll_cons r0
  obtain ⟨rfl, rfl, rfl⟩ := trodAll_nil r1
  obtain rfl : args = #[v0, v1] := by cases args; simp_all
  obtain ⟨rfl, rfl⟩ := trodVars_none hV
  obtain ⟨a0, rfl, rfl, rfl, w0⟩ := open_int Tryd.underlying33 (hval 0 33 v0 rfl rfl) h0
  obtain ⟨a1, n1, c1, rfl⟩ := okWide_slice Tryd.underlying50 (hval 1 50 v1 rfl rfl)
  have k1 := h1
  have lt1 : ∀ x ∈ p1, x.block < W.heap.size := by obtain ⟨m, hm⟩ := k1; exact DataW.trod_lt m _ _ _ hm
  obtain ⟨z1, l1, cp1, cq1, nz1, rd1, wf1, bj1⟩ := Go.Proofs.YtehpbjkacdmlaaaDoor.O.open_isT Tryd.underlying50 Tryd.underlying5 (by kernel_rfl) h1
  have el1 := Go.Proofs.YtehpbjkacdmlaaaDoor.O.open_el Tryd.underlying50 Tryd.underlying5 (by kernel_rfl) k1
  clear hA0 hval0
  have r1 : z1.length * 1 ≤ 140737488351232 := by
    rcases el1 with h | ⟨es, sp, h, hle⟩
    · omega
    · have hr := sized_slice hsz (j := 1) (t := 50) (e := 5) (elems := es) (spare := sp) rfl (by simp [h]) Tryd.underlying50
      rw [show Tryd.prog.bytesOf 5 = 1 from by kernel_rfl] at hr
      simp only [reachBytes] at hr
      omega
  have tb := Go.Proofs.YtehpbjkacdmlaaaDoor.E.tab_of_laid hL
  refine (walk a0 a1 n1 c1 z1 W tb w0 l1 ⟨cp1, cq1⟩ nz1 rd1 wf1 r1).mono fun e W' ⟨he, bel⟩ => ?_
  subst he
  exact ⟨_, rfl, _, _, _, [], _, [], hW', trodAll_mk1 (shut_bool Tryd.underlying4 _), (trodAll_cons_mk (shut_int Tryd.underlying33 w0) (trodAll_cons_mk (Below.trod Go.Proofs.YtehpbjkacdmlaaaDoor.O.laidOut (by kernel_rfl) (of_decide_eq_true (by kernel_rfl)) k1 bel lt1) trodAll_mk0)), rfl, bel.frame _, fun h => by cases h⟩

theorem said : Rows.MemoryEccSaid :=
  OpenClaim.holds_of_cond 10 Tryd.f10 rfl rfl rfl rfl rfl rfl rfl ⟨rfl, rfl, rfl, rfl, rfl⟩ rfl rfl rfl rfl rfl (by kernel_rfl) Tryd.func10 (by kernel_rfl)
    (of_decide_eq_true (by kernel_rfl)) (by unfold Func.isWrapper; first | (rw [if_pos (by decide +kernel)]; kernel_rfl) | (rw [if_neg (by decide +kernel)]; exact ⟨rfl, rfl⟩))
    (fun os started H0 enc _ F0 => by rw [OpenClaim.pre_eq_preRow]; exact lifted os started H0 enc F0)
theorem plain (f : FuncId) (fn : Func) (hf : Tryd.pinned.checked.prog.funcNamed "perigee/perigeelaw06.MemoryEcc" = some f) (hfn : Tryd.pinned.checked.prog.funcs[f]? = some fn) :
    false = Tryd.pinned.checked.prog.looks [] ∧ ∀ (j : Nat) t, fn.params[j]? = some t → Tryd.pinned.checked.prog.wantsStandIn t = false := by
  obtain rfl : f = 10 := Option.some.inj ((show Tryd.prog.funcNamed "perigee/perigeelaw06.MemoryEcc" = some 10 by kernel_rfl).symm.trans hf) |>.symm
  obtain rfl : fn = Tryd.f10 := (Option.some.inj (Tryd.func10.symm.trans hfn)).symm
  refine ⟨by kernel_rfl, fun j t ht => ?_⟩
  rw [Tryd.params10] at ht
  have hm : t ∈ [33, 50] := by simpa using Array.mem_of_getElem? ht
  have hall : ([33, 50].all fun u => !Tryd.prog.wantsStandIn u) = true := by kernel_rfl
  exact (show Tryd.prog.wantsStandIn t = false by simpa using List.all_eq_true.1 hall t hm)
/-- ████ THE CARD ████ -/
theorem proved : Rows.MemoryEccCardSaid :=
  Claim7.holds_tied_plain_at .later [] _ _ _ _ said (fun _ h => by cases h) (by kernel_rfl) (fun _ h => by cases h) memoryEcc_row_tie rfl ⟨rfl, rfl⟩ (by kernel_rfl) rfl plain (by kernel_rfl)
end Go.Proofs.YtehpbjkacdmlaaaDoor.memoryEcc
