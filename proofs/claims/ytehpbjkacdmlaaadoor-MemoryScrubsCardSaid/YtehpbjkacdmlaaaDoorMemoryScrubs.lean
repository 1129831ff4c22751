/-
  For every list of words, list of bits, choice and number of rounds, MemoryScrubs returns true: in each round one bit of each chosen word is flipped, and a scrub of all words finds and mends exactly these; afterwards all words are as written; and the chapter's examples hold.
-/
import Derived.Test.YtehpbjkacdmlaaaDoorMLives
import Derived.Test.YtehpbjkacdmlaaaDoorMRounds
import Derived.Deep.DeepCutAuto
import Derived.Deep.RegionHeld3
import Derived.Deep.LoopGhost
import Derived.Deep.QuietTactic
namespace Go.Proofs.YtehpbjkacdmlaaaDoor.memoryScrubs
open Go.ChangeShapes Go.WideShapes Go.ChangeAt Go.RowKit
open Go.ChangeMaps (open_string shut_string)
set_option linter.unusedVariables false

set_option maxRecDepth 100000 in
set_option maxHeartbeats 1000000 in
theorem walk (a0 : Option Addr) (n0 c0 : Nat) (z0 : List Int) (a1 : Option Addr) (n1 c1 : Nat) (z1 : List Int) (a2 : Int) (a3 : Int) (w : World) (tb : E.Tab w) (l0 : z0.length = n0) (cp0 : n0 ≤ c0 ∧ c0 ≤ maxLen) (nz0 : a0 = none → c0 = 0) (rd0 : H.RdI w w.heap.size .u32 a0 z0) (wf0 : ∀ n ∈ z0, (Lit.int .u32 n).wf = true) (r0 : z0.length * 4 ≤ 140737488351232) (l1 : z1.length = n1) (cp1 : n1 ≤ c1 ∧ c1 ≤ maxLen) (nz1 : a1 = none → c1 = 0) (rd1 : H.RdI w w.heap.size .u8 a1 z1) (wf1 : ∀ n ∈ z1, (Lit.int .u8 n).wf = true) (r1 : z1.length * 1 ≤ 140737488351232) (w2 : (Lit.int .u64 a2).wf = true) (w3 : (Lit.int .u8 a3).wf = true) :
    Calls Tryd.prog 5 #[.slice a0 n0 c0, .slice a1 n1 c1, .int .u64 a2, .int .u8 a3] w fun e w' => e = .returned (.bool true) ∧ Below w.heap.size w w' := by
  obtain ⟨x, rfl, hx⟩ := M.u64_nat_of w2
  obtain ⟨y, rfl, hy⟩ := M.u8_nat_of w3
  have hz0 : ∀ k : Nat, ∃ q : Nat, z0[k]?.getD 0 = q ∧ q < 4294967296 := fun k => by
    cases h : z0[k]? with
    | none => exact ⟨0, rfl, by decide⟩
    | some y => exact M.u32_nat_of (wf0 y (List.mem_of_getElem? h))
  have hz1 : ∀ k : Nat, ∃ q : Nat, z1[k]?.getD 0 = q ∧ q < 256 := fun k => by
    cases h : z1[k]? with
    | none => exact ⟨0, rfl, by decide⟩
    | some y => exact M.u8_nat_of (wf1 y (List.mem_of_getElem? h))
  obtain ⟨ws, hws⟩ := Classical.axiomOfChoice hz0
  obtain ⟨bs, hbs⟩ := Classical.axiomOfChoice hz1
  obtain ⟨q, hq⟩ : ∃ q, y % 21 = q := ⟨_, rfl⟩
  have eq : (y : Int) % 21 = (q : Int) := by omega
  have hq20 : q ≤ 20 := by omega
  have TB := Lib.hid tb
  have HWS := Lib.hid hws
  have HBS := Lib.hid hbs
  have HR0 := Lib.hid rd0
  have HR1 := Lib.hid rd1
  have HL0 := Lib.hid l0
  have HL1 := Lib.hid l1
  have HX := Lib.hid hx
  have HBL : Hid (n1 ≤ 140737488351232) := Lib.hid (by rw [← l1]; omega)
  clear tb hz0 hz1 hws hbs rd0 rd1 l0 l1 wf0 wf1 cp0 cp1 nz0 nz1 r0 r1 w2 w3 hx hq hy
  by_cases hsmall : (n0 : Int) < 1
  · go_enter Tryd.func5, Tryd.ntmps5
    go_wp2_with fail
    refine (M.plives_any _ TB.out).mono ?_
    rintro r wl ⟨rfl, hl⟩
    have HB := Lib.hid hl
    clear hl
    go_wp2_with fail
    go_ret
    exact ⟨rfl, HB.out⟩
  by_cases hbig : (40 : Int) < (n0 : Int)
  · go_enter Tryd.func5, Tryd.ntmps5
    go_wp2_with fail
    refine (M.plives_any _ TB.out).mono ?_
    rintro r wl ⟨rfl, hl⟩
    have HB := Lib.hid hl
    clear hl
    go_wp2_with fail
    go_ret
    exact ⟨rfl, HB.out⟩
  by_cases hbits : (n1 : Int) < 1
  · go_enter Tryd.func5, Tryd.ntmps5
    go_wp2_with fail
    refine (M.plives_any _ TB.out).mono ?_
    rintro r wl ⟨rfl, hl⟩
    have HB := Lib.hid hl
    clear hl
    go_wp2_with fail
    go_ret
    exact ⟨rfl, HB.out⟩
  have hn1 : 1 ≤ n0 := by omega
  have hn40 : n0 ≤ 40 := by omega
  have hb1 : 1 ≤ n1 := by omega
  have hbl : n1 ≤ 140737488351232 := HBL.out
  have HN := Lib.hid (And.intro hn1 (And.intro hn40 (And.intro hb1 hbl)))
  clear hn1
  go_enter Tryd.func5, Tryd.ntmps5
  go_wp2_with fail
  refine (M.made_any n0 HN.out.1 (by have := HN.out.2.1; omega) _ TB.out).mono ?_
  rintro r w0 ⟨b, v, rfl, hm⟩
  have M0 : Hid (M.Made M.PM w w0 b v (M.Mem.new n0)) := Lib.hid hm
  have S0 := Lib.hid (M.Stored.start ws HN.out.1 (show n0 ≤ 4096 by have := HN.out.2.1; omega))
  clear hm
  go_wp2_with fail
  go_loopg [11] n0 (fun g i wr => ∃ (k : Nat) (m : M.Mem), k + g = n0 ∧ i = .int .i64 (k : Nat) ∧ M.Made M.PM w wr b v m ∧ M.Stored ws n0 k m)
  case atStart => exact ⟨0, _, Nat.zero_add _, rfl, M0.out, S0.out⟩
  case round =>
    obtain ⟨k, m, hg, rfl, hmd, hst⟩ := hrel
    have HG := Lib.hid hg
    have HM := Lib.hid (And.intro hmd hst)
    have hk : k ≤ n0 := by omega
    clear hg hmd hst
    by_cases hlt : k < n0
    · have hki : (k : Int) < (n0 : Int) := by omega
      have hk0 : (0 : Int) ≤ (k : Int) := by omega
      obtain ⟨ad, rfl, _, hcell⟩ := (HR0.out.below HM.out.1.2.2) k (by rw [HL0.out]; exact hlt)
      rw [(HWS.out k).1] at hcell
      obtain ⟨s1, s2⟩ := HM.out.2.write hlt (HWS.out k).2
      have h := M.pwrite_any HM.out.1.1 HM.out.2.ok (HM.out.1.tab TB.out) (by have := HM.out.2.count; omega) k (ws k) (HWS.out k).2
      rw [s1] at h
      have HH := Lib.hid h
      have HX2 := Lib.hid s2
      have HLT := Lib.hid hlt
      clear s1 s2 h hlt
      generalize ws k = wk at *
      go_wp2_with fail
      refine HH.out.mono ?_
      rintro r w2 ⟨rfl, hp, hs⟩
      have M2 := Lib.hid (HM.out.1.step hp hs)
      clear hp hs
      go_wp2_with fail
      go_roundg (gk - 1)
      case measure => have := HG.out; have := HLT.out; omega
      case rel => exact ⟨k + 1, _, by have := HG.out; have := HLT.out; omega, by go_num, M2.out, HX2.out⟩
    · obtain rfl : k = n0 := by omega
      have hki : ¬ (k : Int) < (k : Int) := by omega
      have HT := Lib.hid (HM.out.2.hit (fun _ => false) (fun _ => 0))
      clear hlt hk HG
      go_wp2_with fail
      go_loopg [12, 13, 14, 15] q (fun g i c a z wr => ∃ (t : Nat) (m : M.Mem), t + g = q ∧ i = .int .i64 (t : Nat) ∧ M.Made M.PM w wr b v m ∧ M.Hit ws (fun _ => false) (fun _ => 0) k 0 m)
      case atStart => exact ⟨0, _, Nat.zero_add _, rfl, HM.out.1, HT.out⟩
      case round =>
        obtain ⟨t, m2, hg, rfl, hmd, hht⟩ := hrel
        generalize gk = g0 at *
        have HG := Lib.hid hg
        have HM2 := Lib.hid (And.intro hmd hht)
        have ht : t ≤ q := by omega
        clear hg hmd hht
        by_cases hlt : t < q
        · have hti : (t : Int) < (q : Int) := by omega
          have HLT := Lib.hid hlt
          obtain ⟨ch, hch⟩ : ∃ ch : Nat → Bool, ∀ j, ch j = decide (x / 2 ^ ((j + t) % 64) % 2 = 1) := ⟨_, fun _ => rfl⟩
          obtain ⟨f, hf⟩ : ∃ f : Nat → Nat, ∀ j, f j = bs ((j + t) % n1) % 39 := ⟨_, fun _ => rfl⟩
          have hf39 : ∀ j, f j < 39 := fun j => by rw [hf]; omega
          have HCH := Lib.hid hch
          have HF := Lib.hid hf
          have HF39 := Lib.hid hf39
          have HT2 := Lib.hid (HM2.out.2.turn ch f)
          clear hch hf hf39 hlt
          go_wp2_with fail
          go_loopg [14, 13] k (fun g i c wr => ∃ (s : Nat) (m : M.Mem), s + g = k ∧ i = .int .i64 (s : Nat) ∧ c = .int .i64 (M.tally ch s : Nat) ∧ M.Made M.PM w wr b v m ∧ M.Hit ws ch f k s m)
          case atStart => exact ⟨0, _, Nat.zero_add _, rfl, rfl, HM2.out.1, HT2.out⟩
          case round =>
            obtain ⟨s, m3, hg, rfl, rfl, hmd, hht⟩ := hrel
            generalize gk = g1 at *
            have HG1 := Lib.hid hg
            have HM3 := Lib.hid (And.intro hmd hht)
            clear eq
            have hs : s ≤ k := by omega
            have hta := M.tally_le ch s
            clear hg hmd hht
            by_cases hlt : s < k
            · have hsi : (s : Int) < (k : Int) := by omega
              obtain ⟨e, he⟩ : ∃ e, (s + t) % 64 = e := ⟨_, rfl⟩
              have ee : ((s : Int) + (t : Int)) % 64 = (e : Int) := by omega
              have he64 : e < 64 := by omega
              have hew : IntKind.u64.wrap (e : Int) = (e : Int) := E.u64_nat rfl (by omega)
              have HLT1 := Lib.hid hlt
              have hch := HCH.out s
              rw [he] at hch
              obtain ⟨p, hp⟩ : ∃ p, x / 2 ^ e = p := ⟨_, rfl⟩
              rw [hp] at hch
              have hsh : (x : Int) / 2 ^ e = (p : Int) := by rw [← hp]; simp
              by_cases hc : ch s = true
              · have hpm : (p : Int) % 2 = 1 := by
                  rw [hc] at hch
                  have := of_decide_eq_true hch.symm
                  omega
                obtain ⟨r, hr⟩ : ∃ r, (s + t) % n1 = r := ⟨_, rfl⟩
                have hrn : r < n1 := by rw [← hr]; exact Nat.mod_lt _ HN.out.2.2.1
                have er : ((s : Int) + (t : Int)) % (n1 : Int) = (r : Int) := by rw [← hr]; simp
                have hfs := HF.out s
                rw [hr] at hfs
                have hfl := HF39.out s
                obtain ⟨ad, rfl, _, hcell⟩ := (HR1.out.below HM3.out.1.2.2) r (by rw [HL1.out]; exact hrn)
                rw [(HBS.out r).1] at hcell
                have hb256 := (HBS.out r).2
                generalize bs r = br at *
                have e3 : (br : Int) % 39 = ((f s : Nat) : Int) := by rw [hfs]; omega
                obtain ⟨s1, s2⟩ := HM3.out.2.flip hlt hfl hc
                have h := M.pflip_mem HM3.out.1.1 HM3.out.2.ok s (f s)
                rw [s1] at h
                have HH := Lib.hid h
                have HX2 := Lib.hid s2
                have ht1 : M.tally ch (s + 1) = M.tally ch s + 1 := by rw [M.tally, hc]; rfl
                have HT1 := Lib.hid ht1
                have hri : (r : Int) < (n1 : Int) := by omega
                have hr0 : (0 : Int) ≤ (r : Int) := by omega
                clear s1 s2 h hch hp he hr hlt hc ht1 hfs
                generalize f s = fs at *
                go_wp2_with fail
                refine HH.out.mono ?_
                rintro r w2 ⟨rfl, hp, hs⟩
                have M4 := Lib.hid (HM3.out.1.step hp hs)
                clear hp hs
                go_wp2_with fail
                go_roundg (g1 - 1)
                case measure => have := HG1.out; have := HLT1.out; omega
                case rel => exact ⟨s + 1, _, by have := HG1.out; have := HLT1.out; omega, by go_num, by rw [HT1.out]; go_num, M4.out, HX2.out⟩
              · have hc : ch s = false := by simpa using hc
                have hpm : (p : Int) % 2 = 0 := by
                  rw [hc] at hch
                  have := of_decide_eq_false hch.symm
                  omega
                have HT1 : Hid (M.tally ch (s + 1) = M.tally ch s) := Lib.hid (by rw [M.tally, hc]; rfl)
                have HX2 := Lib.hid (HM3.out.2.skip hc)
                clear hch hp he hlt hc
                go_wp2_with fail
                go_roundg (g1 - 1)
                case measure => have := HG1.out; have := HLT1.out; omega
                case rel => exact ⟨s + 1, _, by have := HG1.out; have := HLT1.out; omega, by go_num, by rw [HT1.out], HM3.out.1, HX2.out⟩
            · obtain rfl : s = k := by omega
              have hsi : ¬ (s : Int) < (s : Int) := by omega
              obtain ⟨s1, s2, s3, s4⟩ := HM3.out.2.scrub (fun j hj => (HWS.out j).2) HF39.out
              have h := M.pscrub_any HM3.out.1.1 HM3.out.2.ok (HM3.out.1.tab TB.out) s
              unfold M.ScrubPost at h
              rw [s1, s2, s3] at h
              have HH := Lib.hid h
              have HS := Lib.hid (s4.turn (fun _ => false) (fun _ => 0))
              clear s1 s2 s3 s4 h hlt
              go_wp2_with fail
              refine HH.out.mono ?_
              rintro r w3 ⟨rfl, hp, hs⟩
              have M3 := Lib.hid ((HM3.out.1.step hp hs).keep ((Below.refl _ _).alloc (Nat.le_refl _) (.cells #[.int .i64 (s : Nat), .int .i64 (M.tally ch s : Nat), .int .i64 ((0 : Nat) : Int)] 54)))
              clear hp hs
              go_wp2_with fail
              go_roundg (g0 - 1)
              case measure => have := HG.out; have := HLT.out; omega
              case rel => exact ⟨t + 1, _, by have := HG.out; have := HLT.out; omega, by go_num, M3.out, HS.out⟩
        · obtain rfl : t = q := by omega
          have hti : ¬ (t : Int) < (t : Int) := by omega
          obtain ⟨s1, s2, s3, s4⟩ := HM2.out.2.whole (fun j hj => (HWS.out j).2)
          have HW := Lib.hid (And.intro s1 (And.intro s2 (And.intro s3 s4)))
          clear hlt ht HG s1 s2 s3 s4
          go_wp2_with fail
          go_loopg [16, 17, 18] k (fun g i a z wx => ∃ (s : Nat), s + g = k ∧ i = .int .i64 (s : Nat) ∧ M.Made M.PM w wx b v m2)
          case atStart => exact ⟨0, Nat.zero_add _, rfl, HM2.out.1⟩
          case round =>
            obtain ⟨s, hg, rfl, hmd⟩ := hrel
            generalize gk = g1 at *
            have HG1 := Lib.hid hg
            have HM3 := Lib.hid hmd
            have hs : s ≤ k := by omega
            clear hg hmd
            by_cases hlt : s < k
            · have hsi : (s : Int) < (k : Int) := by omega
              have hs0 : (0 : Int) ≤ (s : Int) := by omega
              have hrd := HM2.out.2.read hlt (HWS.out s).2
              obtain ⟨ad, rfl, had, hcell⟩ := (HR0.out.below HM3.out.2.2) s (by rw [HL0.out]; exact hlt)
              rw [(HWS.out s).1] at hcell
              have HRD := Lib.hid hrd
              have HLT1 := Lib.hid hlt
              have HCE := Lib.hid hcell
              clear hrd hlt hcell
              go_wp2_with fail
              refine (M.pread_any HM3.out.1 HM2.out.2.ok (HM3.out.tab TB.out) s).mono ?_
              rintro r wn ⟨hr, nn, hwn⟩
              rw [HRD.out] at hr
              subst hr
              have M4 : Hid (M.Made M.PM w wn b v m2) := Lib.hid (by rw [hwn]; exact HM3.out.drewN nn)
              obtain ⟨ad2, he2, _, hcell⟩ := (HR0.out.below M4.out.2.2) s (by rw [HL0.out]; exact HLT1.out)
              obtain rfl := Option.some.inj he2
              rw [(HWS.out s).1] at hcell
              clear hwn
              generalize ws s = wk at *
              go_wp2_with fail
              go_roundg (g1 - 1)
              case measure => have := HG1.out; have := HLT1.out; omega
              case rel => exact ⟨s + 1, by have := HG1.out; have := HLT1.out; omega, by go_num, M4.out⟩
            · obtain rfl : s = k := by omega
              have hsi : ¬ (s : Int) < (s : Int) := by omega
              have h := M.pscrub_any HM3.out.1 HM2.out.2.ok (HM3.out.tab TB.out) s
              unfold M.ScrubPost at h
              rw [HW.out.1, HW.out.2.1, HW.out.2.2.1] at h
              have HH := Lib.hid h
              clear h hlt
              go_wp2_with fail
              refine HH.out.mono ?_
              rintro r w3 ⟨rfl, hp, hs⟩
              have M3 := Lib.hid (HM3.out.step hp hs)
              have hcn := HW.out.2.2.2
              have HC := Lib.hid hcn
              clear hp hs hcn
              go_wp2_with fail
              refine (M.pwrites_any M3.out.1).mono ?_
              rintro r w4 ⟨hr, hw4⟩
              rw [HC.out] at hr
              subst hr
              subst hw4
              go_wp2_with fail
              refine (M.plives_any _ (M3.out.tab TB.out)).mono ?_
              rintro r wl ⟨rfl, hl⟩
              have HB := Lib.hid (M3.out.2.2.trans (hl.mono M3.out.2.2.size))
              clear hl
              go_wp2_with fail
              go_ret
              exact ⟨rfl, HB.out⟩

theorem reads (os : Os) {H0 : Type} (enc : TypeId × Value → H0) : ∃ places, DataW.whole enc Tryd.prog ((Go.Proofs.YtehpbjkacdmlaaaDoor.E.laidWorld os).forCall (fun _ _ => 0) ⟨#[], #[.slice none 0 0, .slice none 0 0, .int .u64 0, .int .u8 0], []⟩).memory Tryd.f5.params.toList Rows.memoryScrubsSpec.vars false (#[.slice none 0 0, .slice none 0 0, .int .u64 0, .int .u8 0] : Array Value).toList 8 = some ([.nil, .nil, .lit (.int .u64 0), .lit (.int .u8 0)], [], places) :=
  ⟨[], by kernel_rfl⟩
set_option maxRecDepth 100000 in
theorem lifted (os : Os) (started : os.Started) (H0 : Type) (enc : TypeId × Value → H0) (F0 : Stop.Interp) :
    ReturnsInHanded {} Tryd.checked os 5 .any ((OpenSpec.ofChange Rows.memoryScrubsSpec).preRow enc Tryd.prog Tryd.f5 Rows.memoryScrubsRow.domain false Rows.memoryScrubsRow.laid) (((OpenSpec.ofChange Rows.memoryScrubsSpec).at F0).post enc Tryd.prog Tryd.f5 false true false false) := by
  obtain ⟨places, hx⟩ := reads os enc
  refine returnsInHanded_of_row (C := Tryd.checked) (s := (OpenSpec.ofChange Rows.memoryScrubsSpec)) Go.Proofs.YtehpbjkacdmlaaaDoor.O.own started (by kernel_rfl) Tryd.func5
    (witness_row_at (enc := enc) (C := Tryd.checked) false (Go.Proofs.YtehpbjkacdmlaaaDoor.E.laidWorld os) #[.slice none 0 0, .slice none 0 0, .int .u64 0, .int .u8 0] rfl (by kernel_rfl) (by kernel_rfl) (by kernel_rfl)
      (OpenSpec.preRow_of_cond 8 hx (by kernel_rfl) (fun k hk => by cases hk) (by kernel_rfl) (Go.Proofs.YtehpbjkacdmlaaaDoor.E.laid_met os _))) ?_
  intro W base args ds gs before hval0 hW _ hk0 hsz0 hL _ _
  have hsz : (DataW.weightsEach Tryd.prog (Tryd.f5.params.toList ++ (OpenSpec.ofChange Rows.memoryScrubsSpec).bare.plain.varTypes Tryd.prog) (ds ++ gs)).all (· ≤ reachBytes) = true := hsz0
  clear hsz0
  have hval : ∀ (j : Nat) t v, Tryd.f5.params[j]? = some t → args[j]? = some v → Value.okWide Tryd.prog W .any base t v := hval0
  have hW' := hW
  obtain ⟨p, q, hA0, hV, rfl, hfz, hnd⟩ := hW
  have hA : DataW.TrodAll enc Tryd.prog W 0 (fun _ => true) true Tryd.f5.params.toList args.toList ds p := hA0
  rw [Tryd.params5] at hA hval hsz
  obtain ⟨v0, vs0, d0, ds0, p0, q0, hargs, rfl, rfl, h0, r0⟩ := trodAll_cons hA
  obtain ⟨v1, vs1, d1, ds1, p1, q1, rfl, rfl, rfl, h1, r1⟩ := trodAll_cons r0
  obtain ⟨v2, vs2, d2, ds2, p2, q2, rfl, rfl, rfl, h2, r2⟩ := trodAll_cons r1
  obtain ⟨v3, vs3, d3, ds3, p3, q3, rfl, rfl, rfl, h3, r3⟩ := trodAll_cons r2
  obtain ⟨rfl, rfl, rfl⟩ := trodAll_nil r3
  obtain rfl : args = #[v0, v1, v2, v3] := by cases args; simp_all
  obtain ⟨rfl, rfl⟩ := trodVars_none hV
  obtain ⟨a0, n0, c0, rfl⟩ := okWide_slice Tryd.underlying49 (hval 0 49 v0 rfl rfl)
  have k0 := h0
  have lt0 : ∀ x ∈ p0, x.block < W.heap.size := by obtain ⟨m, hm⟩ := k0; exact DataW.trod_lt m _ _ _ hm
  obtain ⟨z0, l0, cp0, cq0, nz0, rd0, wf0, bj0⟩ := Go.Proofs.YtehpbjkacdmlaaaDoor.O.open_isT Tryd.underlying49 Tryd.underlying33 (by kernel_rfl) h0
  have el0 := Go.Proofs.YtehpbjkacdmlaaaDoor.O.open_el Tryd.underlying49 Tryd.underlying33 (by kernel_rfl) k0
  obtain ⟨a1, n1, c1, rfl⟩ := okWide_slice Tryd.underlying50 (hval 1 50 v1 rfl rfl)
  have k1 := h1
  have lt1 : ∀ x ∈ p1, x.block < W.heap.size := by obtain ⟨m, hm⟩ := k1; exact DataW.trod_lt m _ _ _ hm
  obtain ⟨z1, l1, cp1, cq1, nz1, rd1, wf1, bj1⟩ := Go.Proofs.YtehpbjkacdmlaaaDoor.O.open_isT Tryd.underlying50 Tryd.underlying5 (by kernel_rfl) h1
  have el1 := Go.Proofs.YtehpbjkacdmlaaaDoor.O.open_el Tryd.underlying50 Tryd.underlying5 (by kernel_rfl) k1
  obtain ⟨a2, rfl, rfl, rfl, w2⟩ := open_int Tryd.underlying51 (hval 2 51 v2 rfl rfl) h2
  obtain ⟨a3, rfl, rfl, rfl, w3⟩ := open_int Tryd.underlying5 (hval 3 5 v3 rfl rfl) h3
  clear hA0 hval0
  have r0 : z0.length * 4 ≤ 140737488351232 := by
    rcases el0 with h | ⟨es, sp, h, hle⟩
    · omega
    · have hr := sized_slice hsz (j := 0) (t := 49) (e := 33) (elems := es) (spare := sp) rfl (by simp [h]) Tryd.underlying49
      rw [show Tryd.prog.bytesOf 33 = 4 from by kernel_rfl] at hr
      simp only [reachBytes] at hr
      omega
  have r1 : z1.length * 1 ≤ 140737488351232 := by
    rcases el1 with h | ⟨es, sp, h, hle⟩
    · omega
    · have hr := sized_slice hsz (j := 1) (t := 50) (e := 5) (elems := es) (spare := sp) rfl (by simp [h]) Tryd.underlying50
      rw [show Tryd.prog.bytesOf 5 = 1 from by kernel_rfl] at hr
      simp only [reachBytes] at hr
      omega
  have tb := Go.Proofs.YtehpbjkacdmlaaaDoor.E.tab_of_laid hL
  refine (walk a0 n0 c0 z0 a1 n1 c1 z1 a2 a3 W tb l0 ⟨cp0, cq0⟩ nz0 rd0 wf0 r0 l1 ⟨cp1, cq1⟩ nz1 rd1 wf1 r1 w2 w3).mono fun e W' ⟨he, bel⟩ => ?_
  subst he
  exact ⟨_, rfl, _, _, _, [], _, [], hW', trodAll_mk1 (shut_bool Tryd.underlying4 _), (trodAll_cons_mk (Below.trod Go.Proofs.YtehpbjkacdmlaaaDoor.O.laidOut (by kernel_rfl) (of_decide_eq_true (by kernel_rfl)) k0 bel lt0) (trodAll_cons_mk (Below.trod Go.Proofs.YtehpbjkacdmlaaaDoor.O.laidOut (by kernel_rfl) (of_decide_eq_true (by kernel_rfl)) k1 bel lt1) (trodAll_cons_mk (shut_int Tryd.underlying51 w2) (trodAll_cons_mk (shut_int Tryd.underlying5 w3) trodAll_mk0)))), rfl, bel.frame _, fun h => by cases h⟩

theorem said : Rows.MemoryScrubsSaid :=
  OpenClaim.holds_of_cond 5 Tryd.f5 rfl rfl rfl rfl rfl rfl rfl ⟨rfl, rfl, rfl, rfl, rfl⟩ rfl rfl rfl rfl rfl (by kernel_rfl) Tryd.func5 (by kernel_rfl)
    (of_decide_eq_true (by kernel_rfl)) (by unfold Func.isWrapper; first | (rw [if_pos (by decide +kernel)]; kernel_rfl) | (rw [if_neg (by decide +kernel)]; exact ⟨rfl, rfl⟩))
    (fun os started H0 enc _ F0 => by rw [OpenClaim.pre_eq_preRow]; exact lifted os started H0 enc F0)
theorem plain (f : FuncId) (fn : Func) (hf : Tryd.pinned.checked.prog.funcNamed "perigee/perigeelaw06.MemoryScrubs" = some f) (hfn : Tryd.pinned.checked.prog.funcs[f]? = some fn) :
    false = Tryd.pinned.checked.prog.looks [] ∧ ∀ (j : Nat) t, fn.params[j]? = some t → Tryd.pinned.checked.prog.wantsStandIn t = false := by
  obtain rfl : f = 5 := Option.some.inj ((show Tryd.prog.funcNamed "perigee/perigeelaw06.MemoryScrubs" = some 5 by kernel_rfl).symm.trans hf) |>.symm
  obtain rfl : fn = Tryd.f5 := (Option.some.inj (Tryd.func5.symm.trans hfn)).symm
  refine ⟨by kernel_rfl, fun j t ht => ?_⟩
  rw [Tryd.params5] at ht
  have hm : t ∈ [49, 50, 51, 5] := by simpa using Array.mem_of_getElem? ht
  have hall : ([49, 50, 51, 5].all fun u => !Tryd.prog.wantsStandIn u) = true := by kernel_rfl
  exact (show Tryd.prog.wantsStandIn t = false by simpa using List.all_eq_true.1 hall t hm)
/-- ████ THE CARD ████ -/
theorem proved : Rows.MemoryScrubsCardSaid :=
  Claim7.holds_tied_plain_at .later [] _ _ _ _ said (fun _ h => by cases h) (by kernel_rfl) (fun _ h => by cases h) memoryScrubs_row_tie rfl ⟨rfl, rfl⟩ (by kernel_rfl) rfl plain (by kernel_rfl)
end Go.Proofs.YtehpbjkacdmlaaaDoor.memoryScrubs
