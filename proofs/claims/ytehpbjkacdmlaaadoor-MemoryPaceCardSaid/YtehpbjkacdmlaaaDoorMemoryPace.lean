/-
  For every three bytes, MemoryPace returns true: if one bit of each word is flipped, as many scrubs as are needed to cover all words at the pace correct every word once; scrubs of no word visit none; and the chapter's examples hold.
-/
import Derived.Test.YtehpbjkacdmlaaaDoorMLives
import Derived.Test.YtehpbjkacdmlaaaDoorMPace
import Derived.Deep.DeepCutAuto
import Derived.Deep.RegionHeld3
import Derived.Deep.LoopGhost
import Derived.Deep.QuietTactic
namespace Go.Proofs.YtehpbjkacdmlaaaDoor.memoryPace
open Go.ChangeShapes Go.WideShapes Go.ChangeAt Go.RowKit
open Go.ChangeMaps (open_string shut_string)
set_option linter.unusedVariables false

set_option maxRecDepth 100000 in
set_option maxHeartbeats 1000000 in
theorem walk (a0 : Int) (a1 : Int) (a2 : Int) (w : World) (tb : E.Tab w) (w0 : (Lit.int .u8 a0).wf = true) (w1 : (Lit.int .u8 a1).wf = true) (w2 : (Lit.int .u8 a2).wf = true) :
    Calls Tryd.prog 6 #[.int .u8 a0, .int .u8 a1, .int .u8 a2] w fun e w' => e = .returned (.bool true) ∧ Below w.heap.size w w' := by
  obtain ⟨x0, rfl, hx0⟩ := M.u8_nat_of w0
  obtain ⟨x1, rfl, hx1⟩ := M.u8_nat_of w1
  obtain ⟨x2, rfl, hx2⟩ := M.u8_nat_of w2
  have TB := Lib.hid tb
  obtain ⟨l, hl⟩ : ∃ l, x0 % 60 = l := ⟨_, rfl⟩
  obtain ⟨q, hq⟩ : ∃ q, x1 % 70 = q := ⟨_, rfl⟩
  have el : (x0 : Int) % 60 = (l : Int) := by omega
  have eq : (x1 : Int) % 70 = (q : Int) := by omega
  obtain ⟨n, hn⟩ : ∃ n, 1 + l = n := ⟨_, rfl⟩
  obtain ⟨p, hp⟩ : ∃ p, 1 + q = p := ⟨_, rfl⟩
  have en : 1 + (l : Int) = (n : Int) := by omega
  have ep : 1 + (q : Int) = (p : Int) := by omega
  have hn1 : 1 ≤ n := by omega
  have hn60 : n ≤ 60 := by omega
  have hp1 : 1 ≤ p := by omega
  have hp70 : p ≤ 70 := by omega
  obtain ⟨f, hf⟩ : ∃ f : Nat → Nat, ∀ j, f j = (x2 + j) % 39 := ⟨_, fun _ => rfl⟩
  have hf39 : ∀ j, f j < 39 := fun j => by rw [hf]; omega
  have HFD := Lib.hid hf
  have HF39 := Lib.hid hf39
  have HN := Lib.hid (And.intro hn1 hn60)
  have HP := Lib.hid (And.intro hp1 hp70)
  obtain ⟨c, hc⟩ : ∃ c, min p n = c := ⟨_, rfl⟩
  have hc1 : 1 ≤ c := by omega
  have hcn : c ≤ n := by omega
  clear w0 w1 w2 tb hl hq hn hp hf hf39 hx0 hx1
  by_cases hpn : p ≤ n
  · have hpi : (p : Int) ≤ (n : Int) := by omega
    have hpi2 : ¬ (n : Int) < (p : Int) := by omega
    obtain rfl : p = c := by omega
    have HC := Lib.hid hc
    clear hc hpn
    go_enter Tryd.func6, Tryd.ntmps6
    go_wp2_with fail
    refine (M.made_any n HN.out.1 (by have := HN.out.2; omega) _ TB.out).mono ?_
    rintro r w0 ⟨b, v, rfl, hm⟩
    have M0 : Hid (M.Made M.PM w w0 b v (M.Mem.new n)) := Lib.hid hm
    have F0 := Lib.hid (M.Flipping.start f (n := n) HN.out.1 (by have := HN.out.2; omega))
    clear hm
    go_wp2_with fail
    go_loopg [10] n (fun g i wr => ∃ (k : Nat) (m : M.Mem), k + g = n ∧ i = .int .i64 (k : Nat) ∧ M.Made M.PM w wr b v m ∧ M.Flipping f n k m)
    case atStart => exact ⟨0, _, Nat.zero_add _, rfl, M0.out, F0.out⟩
    case round =>
      obtain ⟨k, m, hg, rfl, hmd, hfl⟩ := hrel
      have HG := Lib.hid hg
      have HM := Lib.hid (And.intro hmd hfl)
      have hk : k ≤ n := by omega
      clear hg hmd hfl
      by_cases hlt : k < n
      · have hki : (k : Int) < (n : Int) := by omega
        have e1 : ((x2 : Int) + (k : Int)) % 39 = ((f k : Nat) : Int) := by rw [HFD.out]; omega
        obtain ⟨hfe, hnx⟩ := HM.out.2.next' hlt (HF39.out k)
        have h := M.pflip_mem HM.out.1.1 HM.out.2.ok k (f k)
        rw [hfe] at h
        have HH := Lib.hid h
        have HX := Lib.hid hnx
        have HLT := Lib.hid hlt
        clear hfe h hnx hlt
        generalize f k = fk at *
        go_wp2_with fail
        refine HH.out.mono ?_
        rintro r w2 ⟨rfl, hp, hs⟩
        have M2 := Lib.hid (HM.out.1.step hp hs)
        clear hp hs
        go_wp2_with fail
        go_roundg (gk - 1)
        case measure => have := HG.out; have := HLT.out; omega
        case rel => exact ⟨k + 1, _, by have := HG.out; have := HLT.out; omega, by go_num, M2.out, HX.out⟩
      · obtain rfl : k = n := by omega
        have hki : ¬ (k : Int) < (k : Int) := by omega
        have HPS := Lib.hid (HM.out.2.paced HN.out.1)
        clear hlt hk HG
        go_wp2_with fail
        go_loopg [11, 12, 13] (2 * k) (fun g i d z wx => ∃ (t : Nat) (m : M.Mem), t + g = 2 * k ∧ i = .int .i64 (t : Nat) ∧ d = .int .i64 (min t k : Nat) ∧ M.Made M.PM w wx b v m ∧ M.Paced f k t m)
        case atStart => exact ⟨0, _, by omega, rfl, by rw [Nat.zero_min]; rfl, HM.out.1, HPS.out⟩
        case round =>
          obtain ⟨t, m2, hg, rfl, rfl, hmd, hpc⟩ := hrel
          generalize gk = g0 at *
          have HG := Lib.hid hg
          have HM2 := Lib.hid (And.intro hmd hpc)
          clear hg hmd hpc
          by_cases hlt : t < k
          · have hti : (t : Int) < (k : Int) := by omega
            obtain ⟨s1, s2, s3, s4⟩ := HM2.out.2.scrub HF39.out hlt HP.out.1
            rw [HC.out] at s1 s2 s3 s4
            have h := M.pscrub_any HM2.out.1.1 HM2.out.2.ok (HM2.out.1.tab TB.out) p
            unfold M.ScrubPost at h
            rw [s1, s2, s3] at h
            have HH := Lib.hid h
            have HS := Lib.hid s4
            have hmin : ((min t k : Nat) : Int) = (t : Int) := by omega
            obtain ⟨d, hd⟩ : ∃ d, min (t + p) k - t = d := ⟨_, rfl⟩
            have hdc : d ≤ p := by omega
            rw [hd] at HH
            have hsum : t + d = min (t + p) k := by omega
            have HSM := Lib.hid hsum
            have HLT := Lib.hid (And.intro hlt (And.intro hcn hc1))
            rw [hmin]
            clear s1 s2 s3 s4 h hmin hd hsum hlt
            go_wp2_with fail
            refine HH.out.mono ?_
            rintro r w3 ⟨rfl, hp, hs⟩
            have M3 := Lib.hid ((HM2.out.1.step hp hs).keep ((Below.refl _ _).alloc (Nat.le_refl _) (.cells #[.int .i64 (p : Nat), .int .i64 (d : Nat), .int .i64 ((0 : Nat) : Int)] 54)))
            clear hp hs
            go_wp2_with fail
            go_roundg (g0 - p)
            case measure => have := HG.out; have := HLT.out; omega
            case rel => exact ⟨t + p, _, by have := HG.out; have := HLT.out; omega, by go_num, by rw [← HSM.out]; go_num, M3.out, HS.out⟩
          · have HLT := Lib.hid (show k ≤ t by omega)
            have hti : ¬ (t : Int) < (k : Int) := by omega
            have hmin : ((min t k : Nat) : Int) = (k : Int) := by omega
            rw [hmin]
            obtain ⟨s1, s2, s3⟩ := HM2.out.2.whole HLT.out
            have HN0 := Lib.hid (And.intro (M.turns_none (m := m2) (n := 0) (by decide)) (M.turns_none (m := m2) (n := -1) (by decide)))
            have HS0 := Lib.hid (And.intro (M.scrub_none (m := m2) (n := 0) (by decide)) (M.scrub_none (m := m2) (n := -1) (by decide)))
            have h := M.pscrub_any HM2.out.1.1 HM2.out.2.ok (HM2.out.1.tab TB.out) 0
            unfold M.ScrubPost at h
            rw [HN0.out.1, HS0.out.1, show M.Mem.found m2 1 0 = 0 from rfl, show M.Mem.found m2 2 0 = 0 from rfl] at h
            have HH := Lib.hid h
            have HW := Lib.hid (And.intro s1 (And.intro s2 s3))
            clear hmin s1 s2 s3 h hlt
            go_wp2_with fail
            refine HH.out.mono ?_
            rintro r w3 ⟨rfl, hp, hs⟩
            have M3 := Lib.hid ((HM2.out.1.step hp hs).keep ((Below.refl _ _).alloc (Nat.le_refl _) (.cells #[.int .i64 0, .int .i64 0, .int .i64 0] 54)))
            have Z3 : Hid ((w3.alloc (.cells #[.int .i64 0, .int .i64 0, .int .i64 0] 54)).heap[w3.heap.size]? = some (.cells #[.int .i64 0, .int .i64 0, .int .i64 0] 54 (0, 0))) := Lib.hid (heap_alloc_new w3 _)
            have N3 : Hid (¬ H.FT b v w3.heap.size) := Lib.hid (fun e => by have := hp.lt _ e; omega)
            clear hp hs
            have h := M.pscrub_any M3.out.1 HM2.out.2.ok (M3.out.tab TB.out) (-1)
            unfold M.ScrubPost at h
            rw [HN0.out.2, HS0.out.2, show M.Mem.found m2 1 0 = 0 from rfl, show M.Mem.found m2 2 0 = 0 from rfl] at h
            have HH2 := Lib.hid h
            clear h
            go_wp2_with fail
            refine HH2.out.mono ?_
            rintro r w4 ⟨rfl, hp, hs⟩
            have M4 := Lib.hid ((M3.out.step hp hs).keep ((Below.refl _ _).alloc (Nat.le_refl _) (.cells #[.int .i64 0, .int .i64 0, .int .i64 0] 54)))
            have z3 := (((Below.refl _ w4).alloc (Nat.le_refl _) (.cells #[.int .i64 0, .int .i64 0, .int .i64 0] 54)).block w3.heap.size (by have := H.blk_lt Z3.out; have := hs.size; omega)).trans ((hs.block _ (H.blk_lt Z3.out) N3.out).trans Z3.out)
            have d0 := H.blk_cell z3 0
            have d1 := H.blk_cell z3 1
            have d2 := H.blk_cell z3 2
            simp only [List.getElem?_toArray, List.getElem?_cons_succ, List.getElem?_cons_zero] at d0 d1 d2
            clear hp hs z3
            have h := M.pscrub_any M4.out.1 HM2.out.2.ok (M4.out.tab TB.out) k
            unfold M.ScrubPost at h
            rw [HW.out.1, HW.out.2.1, HW.out.2.2] at h
            have HH3 := Lib.hid h
            clear h
            go_wp2_with fail
            refine HH3.out.mono ?_
            rintro r w5 ⟨rfl, hp, hs⟩
            have M5 := Lib.hid (M4.out.step hp hs)
            clear hp hs d0 d1 d2
            go_wp2_with fail
            refine (M.plives_any _ (M5.out.tab TB.out)).mono ?_
            rintro r wl ⟨rfl, hl⟩
            have HB := Lib.hid (M5.out.2.2.trans (hl.mono M5.out.2.2.size))
            clear hl
            go_wp2_with fail
            go_ret
            exact ⟨rfl, HB.out⟩
  · have hpi : ¬ (p : Int) ≤ (n : Int) := by omega
    have hpi2 : (n : Int) < (p : Int) := by omega
    obtain rfl : n = c := by omega
    have HC := Lib.hid hc
    clear hc hpn
    go_enter Tryd.func6, Tryd.ntmps6
    go_wp2_with fail
    refine (M.made_any n HN.out.1 (by have := HN.out.2; omega) _ TB.out).mono ?_
    rintro r w0 ⟨b, v, rfl, hm⟩
    have M0 : Hid (M.Made M.PM w w0 b v (M.Mem.new n)) := Lib.hid hm
    have F0 := Lib.hid (M.Flipping.start f (n := n) HN.out.1 (by have := HN.out.2; omega))
    clear hm
    go_wp2_with fail
    go_loopg [10] n (fun g i wr => ∃ (k : Nat) (m : M.Mem), k + g = n ∧ i = .int .i64 (k : Nat) ∧ M.Made M.PM w wr b v m ∧ M.Flipping f n k m)
    case atStart => exact ⟨0, _, Nat.zero_add _, rfl, M0.out, F0.out⟩
    case round =>
      obtain ⟨k, m, hg, rfl, hmd, hfl⟩ := hrel
      have HG := Lib.hid hg
      have HM := Lib.hid (And.intro hmd hfl)
      have hk : k ≤ n := by omega
      clear hg hmd hfl
      by_cases hlt : k < n
      · have hki : (k : Int) < (n : Int) := by omega
        have e1 : ((x2 : Int) + (k : Int)) % 39 = ((f k : Nat) : Int) := by rw [HFD.out]; omega
        obtain ⟨hfe, hnx⟩ := HM.out.2.next' hlt (HF39.out k)
        have h := M.pflip_mem HM.out.1.1 HM.out.2.ok k (f k)
        rw [hfe] at h
        have HH := Lib.hid h
        have HX := Lib.hid hnx
        have HLT := Lib.hid hlt
        clear hfe h hnx hlt
        generalize f k = fk at *
        go_wp2_with fail
        refine HH.out.mono ?_
        rintro r w2 ⟨rfl, hp, hs⟩
        have M2 := Lib.hid (HM.out.1.step hp hs)
        clear hp hs
        go_wp2_with fail
        go_roundg (gk - 1)
        case measure => have := HG.out; have := HLT.out; omega
        case rel => exact ⟨k + 1, _, by have := HG.out; have := HLT.out; omega, by go_num, M2.out, HX.out⟩
      · obtain rfl : k = n := by omega
        have hki : ¬ (k : Int) < (k : Int) := by omega
        have HPS := Lib.hid (HM.out.2.paced HN.out.1)
        clear hlt hk HG
        go_wp2_with fail
        go_loopg [11, 12, 13] (2 * k) (fun g i d z wx => ∃ (t : Nat) (m : M.Mem), t + g = 2 * k ∧ i = .int .i64 (t : Nat) ∧ d = .int .i64 (min t k : Nat) ∧ M.Made M.PM w wx b v m ∧ M.Paced f k t m)
        case atStart => exact ⟨0, _, by omega, rfl, by rw [Nat.zero_min]; rfl, HM.out.1, HPS.out⟩
        case round =>
          obtain ⟨t, m2, hg, rfl, rfl, hmd, hpc⟩ := hrel
          generalize gk = g0 at *
          have HG := Lib.hid hg
          have HM2 := Lib.hid (And.intro hmd hpc)
          clear hg hmd hpc
          by_cases hlt : t < k
          · have hti : (t : Int) < (k : Int) := by omega
            obtain ⟨s1, s2, s3, s4⟩ := HM2.out.2.scrub HF39.out hlt HP.out.1
            rw [HC.out] at s1 s2 s3 s4
            have h := M.pscrub_any HM2.out.1.1 HM2.out.2.ok (HM2.out.1.tab TB.out) p
            unfold M.ScrubPost at h
            rw [s1, s2, s3] at h
            have HH := Lib.hid h
            have HS := Lib.hid s4
            have hmin : ((min t k : Nat) : Int) = (t : Int) := by omega
            obtain ⟨d, hd⟩ : ∃ d, min (t + k) k - t = d := ⟨_, rfl⟩
            have hdc : d ≤ k := by omega
            rw [hd] at HH
            have hsum : t + d = min (t + k) k := by omega
            have HSM := Lib.hid hsum
            have HLT := Lib.hid (And.intro hlt (And.intro hcn hc1))
            rw [hmin]
            clear s1 s2 s3 s4 h hmin hd hsum hlt
            go_wp2_with fail
            refine HH.out.mono ?_
            rintro r w3 ⟨rfl, hp, hs⟩
            have M3 := Lib.hid ((HM2.out.1.step hp hs).keep ((Below.refl _ _).alloc (Nat.le_refl _) (.cells #[.int .i64 (k : Nat), .int .i64 (d : Nat), .int .i64 ((0 : Nat) : Int)] 54)))
            clear hp hs
            go_wp2_with fail
            go_roundg (g0 - k)
            case measure => have := HG.out; have := HLT.out; omega
            case rel => exact ⟨t + k, _, by have := HG.out; have := HLT.out; omega, by go_num, by rw [← HSM.out]; go_num, M3.out, HS.out⟩
          · have HLT := Lib.hid (show k ≤ t by omega)
            have hti : ¬ (t : Int) < (k : Int) := by omega
            have hmin : ((min t k : Nat) : Int) = (k : Int) := by omega
            rw [hmin]
            obtain ⟨s1, s2, s3⟩ := HM2.out.2.whole HLT.out
            have HN0 := Lib.hid (And.intro (M.turns_none (m := m2) (n := 0) (by decide)) (M.turns_none (m := m2) (n := -1) (by decide)))
            have HS0 := Lib.hid (And.intro (M.scrub_none (m := m2) (n := 0) (by decide)) (M.scrub_none (m := m2) (n := -1) (by decide)))
            have h := M.pscrub_any HM2.out.1.1 HM2.out.2.ok (HM2.out.1.tab TB.out) 0
            unfold M.ScrubPost at h
            rw [HN0.out.1, HS0.out.1, show M.Mem.found m2 1 0 = 0 from rfl, show M.Mem.found m2 2 0 = 0 from rfl] at h
            have HH := Lib.hid h
            have HW := Lib.hid (And.intro s1 (And.intro s2 s3))
            clear hmin s1 s2 s3 h hlt
            go_wp2_with fail
            refine HH.out.mono ?_
            rintro r w3 ⟨rfl, hp, hs⟩
            have M3 := Lib.hid ((HM2.out.1.step hp hs).keep ((Below.refl _ _).alloc (Nat.le_refl _) (.cells #[.int .i64 0, .int .i64 0, .int .i64 0] 54)))
            have Z3 : Hid ((w3.alloc (.cells #[.int .i64 0, .int .i64 0, .int .i64 0] 54)).heap[w3.heap.size]? = some (.cells #[.int .i64 0, .int .i64 0, .int .i64 0] 54 (0, 0))) := Lib.hid (heap_alloc_new w3 _)
            have N3 : Hid (¬ H.FT b v w3.heap.size) := Lib.hid (fun e => by have := hp.lt _ e; omega)
            clear hp hs
            have h := M.pscrub_any M3.out.1 HM2.out.2.ok (M3.out.tab TB.out) (-1)
            unfold M.ScrubPost at h
            rw [HN0.out.2, HS0.out.2, show M.Mem.found m2 1 0 = 0 from rfl, show M.Mem.found m2 2 0 = 0 from rfl] at h
            have HH2 := Lib.hid h
            clear h
            go_wp2_with fail
            refine HH2.out.mono ?_
            rintro r w4 ⟨rfl, hp, hs⟩
            have M4 := Lib.hid ((M3.out.step hp hs).keep ((Below.refl _ _).alloc (Nat.le_refl _) (.cells #[.int .i64 0, .int .i64 0, .int .i64 0] 54)))
            have z3 := (((Below.refl _ w4).alloc (Nat.le_refl _) (.cells #[.int .i64 0, .int .i64 0, .int .i64 0] 54)).block w3.heap.size (by have := H.blk_lt Z3.out; have := hs.size; omega)).trans ((hs.block _ (H.blk_lt Z3.out) N3.out).trans Z3.out)
            have d0 := H.blk_cell z3 0
            have d1 := H.blk_cell z3 1
            have d2 := H.blk_cell z3 2
            simp only [List.getElem?_toArray, List.getElem?_cons_succ, List.getElem?_cons_zero] at d0 d1 d2
            clear hp hs z3
            have h := M.pscrub_any M4.out.1 HM2.out.2.ok (M4.out.tab TB.out) k
            unfold M.ScrubPost at h
            rw [HW.out.1, HW.out.2.1, HW.out.2.2] at h
            have HH3 := Lib.hid h
            clear h
            go_wp2_with fail
            refine HH3.out.mono ?_
            rintro r w5 ⟨rfl, hp, hs⟩
            have M5 := Lib.hid (M4.out.step hp hs)
            clear hp hs d0 d1 d2
            go_wp2_with fail
            refine (M.plives_any _ (M5.out.tab TB.out)).mono ?_
            rintro r wl ⟨rfl, hl⟩
            have HB := Lib.hid (M5.out.2.2.trans (hl.mono M5.out.2.2.size))
            clear hl
            go_wp2_with fail
            go_ret
            exact ⟨rfl, HB.out⟩

theorem reads (os : Os) {H0 : Type} (enc : TypeId × Value → H0) : ∃ places, DataW.whole enc Tryd.prog ((Go.Proofs.YtehpbjkacdmlaaaDoor.E.laidWorld os).forCall (fun _ _ => 0) ⟨#[], #[.int .u8 0, .int .u8 0, .int .u8 0], []⟩).memory Tryd.f6.params.toList Rows.memoryPaceSpec.vars false (#[.int .u8 0, .int .u8 0, .int .u8 0] : Array Value).toList 8 = some ([.lit (.int .u8 0), .lit (.int .u8 0), .lit (.int .u8 0)], [], places) :=
  ⟨[], by kernel_rfl⟩
set_option maxRecDepth 100000 in
theorem lifted (os : Os) (started : os.Started) (H0 : Type) (enc : TypeId × Value → H0) (F0 : Stop.Interp) :
    ReturnsInHanded {} Tryd.checked os 6 .any ((OpenSpec.ofChange Rows.memoryPaceSpec).preRow enc Tryd.prog Tryd.f6 Rows.memoryPaceRow.domain false Rows.memoryPaceRow.laid) (((OpenSpec.ofChange Rows.memoryPaceSpec).at F0).post enc Tryd.prog Tryd.f6 false true false false) := by
  obtain ⟨places, hx⟩ := reads os enc
  refine returnsInHanded_of_row (C := Tryd.checked) (s := (OpenSpec.ofChange Rows.memoryPaceSpec)) Go.Proofs.YtehpbjkacdmlaaaDoor.O.own started (by kernel_rfl) Tryd.func6
    (witness_row_at (enc := enc) (C := Tryd.checked) false (Go.Proofs.YtehpbjkacdmlaaaDoor.E.laidWorld os) #[.int .u8 0, .int .u8 0, .int .u8 0] rfl (by kernel_rfl) (by kernel_rfl) (by kernel_rfl)
      (OpenSpec.preRow_of_cond 8 hx (by kernel_rfl) (fun k hk => by cases hk) (by kernel_rfl) (Go.Proofs.YtehpbjkacdmlaaaDoor.E.laid_met os _))) ?_
  intro W base args ds gs before hval0 hW _ hk0 hsz0 hL _ _
  have hsz : (DataW.weightsEach Tryd.prog (Tryd.f6.params.toList ++ (OpenSpec.ofChange Rows.memoryPaceSpec).bare.plain.varTypes Tryd.prog) (ds ++ gs)).all (· ≤ reachBytes) = true := hsz0
  clear hsz0
  have hval : ∀ (j : Nat) t v, Tryd.f6.params[j]? = some t → args[j]? = some v → Value.okWide Tryd.prog W .any base t v := hval0
  have hW' := hW
  obtain ⟨p, q, hA0, hV, rfl, hfz, hnd⟩ := hW
  have hA : DataW.TrodAll enc Tryd.prog W 0 (fun _ => true) true Tryd.f6.params.toList args.toList ds p := hA0
  rw [Tryd.params6] at hA hval hsz
  obtain ⟨v0, vs0, d0, ds0, p0, q0, hargs, rfl, rfl, h0, r0⟩ := trodAll_cons hA
  obtain ⟨v1, vs1, d1, ds1, p1, q1, rfl, rfl, rfl, h1, r1⟩ := trodAll_cons r0
  obtain ⟨v2, vs2, d2, ds2, p2, q2, rfl, rfl, rfl, h2, r2⟩ := trodAll_cons r1
  obtain ⟨rfl, rfl, rfl⟩ := trodAll_nil r2
  obtain rfl : args = #[v0, v1, v2] := by cases args; simp_all
  obtain ⟨rfl, rfl⟩ := trodVars_none hV
  obtain ⟨a0, rfl, rfl, rfl, w0⟩ := open_int Tryd.underlying5 (hval 0 5 v0 rfl rfl) h0
  obtain ⟨a1, rfl, rfl, rfl, w1⟩ := open_int Tryd.underlying5 (hval 1 5 v1 rfl rfl) h1
  obtain ⟨a2, rfl, rfl, rfl, w2⟩ := open_int Tryd.underlying5 (hval 2 5 v2 rfl rfl) h2
  clear hA0 hval0
  have tb := Go.Proofs.YtehpbjkacdmlaaaDoor.E.tab_of_laid hL
  refine (walk a0 a1 a2 W tb w0 w1 w2).mono fun e W' ⟨he, bel⟩ => ?_
  subst he
  exact ⟨_, rfl, _, _, _, [], _, [], hW', trodAll_mk1 (shut_bool Tryd.underlying4 _), (trodAll_cons_mk (shut_int Tryd.underlying5 w0) (trodAll_cons_mk (shut_int Tryd.underlying5 w1) (trodAll_cons_mk (shut_int Tryd.underlying5 w2) trodAll_mk0))), rfl, bel.frame _, fun h => by cases h⟩

theorem said : Rows.MemoryPaceSaid :=
  OpenClaim.holds_of_cond 6 Tryd.f6 rfl rfl rfl rfl rfl rfl rfl ⟨rfl, rfl, rfl, rfl, rfl⟩ rfl rfl rfl rfl rfl (by kernel_rfl) Tryd.func6 (by kernel_rfl)
    (of_decide_eq_true (by kernel_rfl)) (by unfold Func.isWrapper; first | (rw [if_pos (by decide +kernel)]; kernel_rfl) | (rw [if_neg (by decide +kernel)]; exact ⟨rfl, rfl⟩))
    (fun os started H0 enc _ F0 => by rw [OpenClaim.pre_eq_preRow]; exact lifted os started H0 enc F0)
theorem plain (f : FuncId) (fn : Func) (hf : Tryd.pinned.checked.prog.funcNamed "perigee/perigeelaw06.MemoryPace" = some f) (hfn : Tryd.pinned.checked.prog.funcs[f]? = some fn) :
    false = Tryd.pinned.checked.prog.looks [] ∧ ∀ (j : Nat) t, fn.params[j]? = some t → Tryd.pinned.checked.prog.wantsStandIn t = false := by
  obtain rfl : f = 6 := Option.some.inj ((show Tryd.prog.funcNamed "perigee/perigeelaw06.MemoryPace" = some 6 by kernel_rfl).symm.trans hf) |>.symm
  obtain rfl : fn = Tryd.f6 := (Option.some.inj (Tryd.func6.symm.trans hfn)).symm
  refine ⟨by kernel_rfl, fun j t ht => ?_⟩
  rw [Tryd.params6] at ht
  have hm : t ∈ [5, 5, 5] := by simpa using Array.mem_of_getElem? ht
  have hall : ([5, 5, 5].all fun u => !Tryd.prog.wantsStandIn u) = true := by kernel_rfl
  exact (show Tryd.prog.wantsStandIn t = false by simpa using List.all_eq_true.1 hall t hm)
/-- ████ THE CARD ████ -/
theorem proved : Rows.MemoryPaceCardSaid :=
  Claim7.holds_tied_plain_at .later [] _ _ _ _ said (fun _ h => by cases h) (by kernel_rfl) (fun _ h => by cases h) memoryPace_row_tie rfl ⟨rfl, rfl⟩ (by kernel_rfl) rfl plain (by kernel_rfl)
end Go.Proofs.YtehpbjkacdmlaaaDoor.memoryPace
