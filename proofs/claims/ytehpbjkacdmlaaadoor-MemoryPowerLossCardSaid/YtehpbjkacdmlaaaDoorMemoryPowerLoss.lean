/-
  For every list of writes, fuse and bit, MemoryPowerLoss returns true: for at most 60 writes of 16 words, those within the fuse are made and the others answer that the power is off; all words are read as they were written last; without power nothing is visited nor written, and after a reset it is; and the chapter's examples hold.
-/
import Derived.Test.YtehpbjkacdmlaaaDoorMLives
import Derived.Test.YtehpbjkacdmlaaaDoorMLost
import Derived.Test.YtehpbjkacdmlaaaDoorMOpen
import Derived.Deep.DeepCutAuto
import Derived.Deep.RegionHeld3
import Derived.Deep.LoopGhost
import Derived.Deep.QuietTactic
namespace Go.Proofs.YtehpbjkacdmlaaaDoor.memoryPowerLoss
open Go.ChangeShapes Go.WideShapes Go.ChangeAt Go.RowKit
open Go.ChangeMaps (open_string shut_string)
set_option linter.unusedVariables false

set_option maxRecDepth 100000 in
set_option maxHeartbeats 1000000 in
theorem walk (a0 : Option Addr) (n0 c0 : Nat) (z0 : List M.Ev) (a1 : Int) (a2 : Int) (w : World) (tb : E.Tab w) (l0 : z0.length = n0) (cp0 : n0 ≤ c0 ∧ c0 ≤ maxLen) (nz0 : a0 = none → c0 = 0) (rd0 : M.RdsEv w w.heap.size a0 z0) (ok0 : ∀ x ∈ z0, x.Ok) (w1 : (Lit.int .u8 a1).wf = true) (w2 : (Lit.int .u8 a2).wf = true) :
    Calls Tryd.prog 8 #[.slice a0 n0 c0, .int .u8 a1, .int .u8 a2] w fun e w' => e = .returned (.bool true) ∧ Below w.heap.size w w' := by
  obtain ⟨x, rfl, hx⟩ := M.u8_nat_of w1
  obtain ⟨y, rfl, hy⟩ := M.u8_nat_of w2
  obtain ⟨n, hn⟩ : ∃ n, x % 64 = n := ⟨_, rfl⟩
  obtain ⟨q, hq⟩ : ∃ q, y % 39 = q := ⟨_, rfl⟩
  have en : (x : Int) % 64 = (n : Int) := by omega
  have eq : (y : Int) % 39 = (q : Int) := by omega
  have hn63 : n ≤ 63 := by omega
  have hq39 : q < 39 := by omega
  have HQ39 := Lib.hid hq39
  have TB := Lib.hid tb
  have HL := Lib.hid l0
  have HR := Lib.hid rd0
  have HOK := Lib.hid ok0
  clear tb l0 cp0 nz0 rd0 ok0 w1 w2 hx hy hn hq
  go_enter Tryd.func8, Tryd.ntmps8
  go_wp2_with fail
  refine (M.made_any 16 (by decide) (by decide) _ TB.out).mono ?_
  rintro r w0 ⟨b, v, rfl, hm⟩
  have M0 : Hid (M.Made M.PM w w0 b v (M.Mem.new 16)) := Lib.hid hm
  clear hm
  by_cases hbig : (60 : Int) < (n0 : Int)
  · go_wp2_with fail
    refine (M.plives_any _ (M0.out.tab TB.out)).mono ?_
    rintro r wl ⟨rfl, hl⟩
    have HB := Lib.hid (M0.out.2.2.trans (hl.mono M0.out.2.2.size))
    clear hl
    go_wp2_with fail
    go_ret
    exact ⟨rfl, HB.out⟩
  · have hn : n0 ≤ 60 := by omega
    have HN60 := Lib.hid (And.intro hn hn63)
    go_wp2_with fail
    refine (M.pfuse_any M0.out.1 n).mono ?_
    rintro r w1 ⟨rfl, hp, hs⟩
    have hm1 := M0.out.step hp hs
    have hk1 : M.Made M.PM w (w1.alloc (.cells ((List.range 16).map fun _ => Value.int .u32 0).toArray 40)) b v ((M.Mem.new 16).fuse n) := hm1.keep ((Below.refl _ _).alloc (Nat.le_refl _) _)
    have hx1 : H.BlkF (w1.alloc (.cells ((List.range 16).map fun _ => Value.int .u32 0).toArray 40)) w1.heap.size 40 16 (fun _ => .int .u32 ((0 : Nat) : Int)) := heap_alloc_new w1 _
    have M1 := Lib.hid (And.intro hk1 hx1)
    have NL : Hid (¬ H.FT b v w1.heap.size) := Lib.hid (fun e => by have := hm1.1.lt _ e; omega)
    have S1 : Hid (w.heap.size ≤ w1.heap.size) := Lib.hid hm1.2.2.size
    have L0 := Lib.hid (M.Lost.start hn63)
    clear hp hs hm1 hk1 hx1
    go_wp2_with fail
    go_loopg [10, 11, 12] n0 (fun g i _ _ wr => ∃ (k : Nat) (m : M.Mem) (last : Nat → Nat), k + g = n0 ∧ i = .int .i64 (k : Nat) ∧ M.Made M.PM w wr b v m ∧ M.Lost last n k m ∧ H.BlkF wr w1.heap.size 40 16 (fun j => .int .u32 ((last j : Nat) : Int)))
    case atStart => exact ⟨0, _, _, Nat.zero_add _, rfl, M1.out.1, L0.out, M1.out.2⟩
    case round =>
      obtain ⟨k, m, last, hg, rfl, hmd, hkp, hbl⟩ := hrel
      have HG := Lib.hid hg
      have hk : k ≤ n0 := by omega
      have HM := Lib.hid (And.intro hmd (And.intro hkp hbl))
      have hkB := hmd.2.2
      clear hg hmd hkp hbl
      by_cases hlt : k < n0
      · obtain ⟨ev, hev⟩ : ∃ e, z0[k]? = some e := ⟨_, List.getElem?_eq_getElem (by rw [HL.out]; exact hlt)⟩
        obtain ⟨ad, rfl, hab, hcs⟩ := (HR.out.below hkB) k ev hev
        have hevk := HOK.out ev (List.mem_of_getElem? hev)
        have HLT := Lib.hid hlt
        have hki : (k : Int) < (n0 : Int) := by omega
        have hk0 : (0 : Int) ≤ (k : Int) := by omega
        obtain ⟨a, hae⟩ : ∃ a, ev.a % 16 = a := ⟨_, rfl⟩
        have ha : a < 16 := by omega
        have ea : (ev.a : Int) % 16 = (a : Int) := by omega
        have ha2 : (a : Int) < 16 := by omega
        have ha0 : (0 : Int) ≤ (a : Int) := by omega
        obtain ⟨e0, e1, e2, e3⟩ := hcs
        have b0 := hevk.a
        have b3 := hevk.w
        have HAB := Lib.hid hab
        have HCS := Lib.hid (fun W (hb : Below w.heap.size wr W) => (And.intro ((hb.cell (p := ad.add (k * 4)) (by rw [H.add_block]; exact hab)).trans e0) (And.intro ((hb.cell (p := ⟨(ad.add (k * 4)).block, (ad.add (k * 4)).off + 1, none⟩) (by show (ad.add (k * 4)).block < _; rw [H.add_block]; exact hab)).trans e1) (And.intro ((hb.cell (p := ⟨(ad.add (k * 4)).block, (ad.add (k * 4)).off + 2, none⟩) (by show (ad.add (k * 4)).block < _; rw [H.add_block]; exact hab)).trans e2) ((hb.cell (p := ⟨(ad.add (k * 4)).block, (ad.add (k * 4)).off + 3, none⟩) (by show (ad.add (k * 4)).block < _; rw [H.add_block]; exact hab)).trans e3)))))
        clear hevk hae hlt hev
        by_cases hkn : k < n
        · have hkni : (k : Int) < (n : Int) := by omega
          obtain ⟨s1, s2⟩ := HM.out.2.1.write hkn ha b3
          have h := M.pwrite_any HM.out.1.1 HM.out.2.1.ok (HM.out.1.tab TB.out) (by have := HM.out.2.1.count_le; omega) a ev.w b3
          rw [s1] at h
          have HH := Lib.hid h
          have HS := Lib.hid s2
          have HKN := Lib.hid hkn
          clear s1 s2 h hkB hab hkn
          go_wp2_with fail
          refine HH.out.mono ?_
          rintro r w2 ⟨rfl, hp, hs⟩
          have m2 := HM.out.1.step hp hs
          have l2 := HM.out.2.2.save hs NL.out
          have hbw : Below w.heap.size wr w2 := hs.below HM.out.1.2.2.size HM.out.1.2.1
          obtain ⟨g0, g1, g2, g3⟩ := HCS.out w2 hbw
          have x2 := l2.cell ha
          have y2 := l2.soft a
          have l3 := (l2.set a (.int .u32 ((ev.w : Nat) : Int)))
          have m4 : M.Made M.PM w (w2.setCell ⟨w1.heap.size, a, none⟩ (.int .u32 ((ev.w : Nat) : Int))) b v (m.write a ev.w) :=
            ⟨m2.1.save (F := fun j => j = w1.heap.size) (H.Save.setCell (F := fun j => j = w1.heap.size) (H.Save.refl _ _) (p := ⟨w1.heap.size, a, none⟩) rfl _) (fun j hj e => by subst e; exact NL.out hj), m2.2.1, m2.2.2.setCell (p := ⟨w1.heap.size, a, none⟩) S1.out _⟩
          have l5 : H.BlkF (w2.setCell ⟨w1.heap.size, a, none⟩ (.int .u32 ((ev.w : Nat) : Int))) w1.heap.size 40 16 (fun j => .int .u32 ((H.upd last a ev.w j : Nat) : Int)) := l3.congr fun j hj => by unfold H.upd; split <;> rfl
          have M5 := Lib.hid (And.intro m4 l5)
          clear hp hs m2 l2 l3 m4 l5 hbw
          by_cases hk1 : k + 1 < n
          · have hk1i : (k : Int) + 1 < (n : Int) := by omega
            have ho : (m.write a ev.w).off = false := by rw [HS.out.off]; exact decide_eq_false (by omega)
            have HO := Lib.hid ho
            clear ho hk1
            go_wp2_with fail
            refine (M.pon_any M5.out.1.1).mono ?_
            rintro r w4 ⟨hr, hw4⟩
            rw [HO.out] at hr
            subst hr
            subst hw4
            go_wp2_with fail
            go_roundg (gk - 1)
            case measure => have := HG.out; have := HLT.out; omega
            case rel => exact ⟨k + 1, _, _, by have := HG.out; have := HLT.out; omega, by go_num, M5.out.1, HS.out, M5.out.2⟩
          · have hk1i : ¬ (k : Int) + 1 < (n : Int) := by omega
            have ho : (m.write a ev.w).off = true := by rw [HS.out.off]; exact decide_eq_true (by omega)
            have HO := Lib.hid ho
            clear ho hk1
            go_wp2_with fail
            refine (M.pon_any M5.out.1.1).mono ?_
            rintro r w4 ⟨hr, hw4⟩
            rw [HO.out] at hr
            subst hr
            subst hw4
            go_wp2_with fail
            go_roundg (gk - 1)
            case measure => have := HG.out; have := HLT.out; omega
            case rel => exact ⟨k + 1, _, _, by have := HG.out; have := HLT.out; omega, by go_num, M5.out.1, HS.out, M5.out.2⟩
        · have hkni : ¬ (k : Int) < (n : Int) := by omega
          have hk1i : ¬ (k : Int) + 1 < (n : Int) := by omega
          obtain ⟨s1, s2⟩ := HM.out.2.1.late (x := ev.w) (by omega) ha
          have h := M.pwrite_any HM.out.1.1 HM.out.2.1.ok (HM.out.1.tab TB.out) (by have := HM.out.2.1.count_le; omega) a ev.w b3
          rw [s1] at h
          have HH := Lib.hid h
          have HS := Lib.hid s2
          have ho : (m.write a ev.w).off = true := by rw [s2.off]; exact decide_eq_true (by omega)
          have HO := Lib.hid ho
          clear s1 s2 h hkB hab hkn ho
          go_wp2_with fail
          refine HH.out.mono ?_
          rintro r w2 ⟨rfl, hp, hs⟩
          have M5 := Lib.hid (And.intro (HM.out.1.step hp hs) (HM.out.2.2.save hs NL.out))
          clear hp hs
          go_wp2_with fail
          refine (M.pon_any M5.out.1.1).mono ?_
          rintro r w4 ⟨hr, hw4⟩
          rw [HO.out] at hr
          subst hr
          subst hw4
          go_wp2_with fail
          go_roundg (gk - 1)
          case measure => have := HG.out; have := HLT.out; omega
          case rel => exact ⟨k + 1, _, _, by have := HG.out; have := HLT.out; omega, by go_num, M5.out.1, HS.out, M5.out.2⟩
      · obtain rfl : k = n0 := by omega
        have hki : ¬ (k : Int) < (k : Int) := by omega
        clear hlt hk HG
        go_wp2_with fail
        go_loopg [13, 14, 15] 16 (fun g i _ _ wx => ∃ j : Nat, j + g = 16 ∧ i = .int .i64 (j : Nat) ∧ M.Made M.PM w wx b v m ∧ H.BlkF wx w1.heap.size 40 16 (fun j => .int .u32 ((last j : Nat) : Int)))
        case atStart => exact ⟨0, rfl, rfl, HM.out.1, HM.out.2.2⟩
        case round =>
          obtain ⟨a, hg, rfl, hmd, hbl⟩ := hrel
          generalize gk = g0 at *
          have HG := Lib.hid hg
          have ha' : a ≤ 16 := by omega
          have HQ := Lib.hid (And.intro hmd hbl)
          clear hg hmd hbl
          by_cases ha : a < 16
          · have ha2 : (a : Int) < 16 := by omega
            have ha0 : (0 : Int) ≤ (a : Int) := by omega
            have HRD := Lib.hid (HM.out.2.1.read ha)
            have HLT := Lib.hid ha
            have HCL := Lib.hid (fun W (h : H.BlkF W w1.heap.size 40 16 (fun j => .int .u32 ((last j : Nat) : Int))) => h.cell ha)
            clear ha ha'
            go_wp2_with fail
            refine (M.pread_any HQ.out.1.1 HM.out.2.1.ok (HQ.out.1.tab TB.out) a).mono ?_
            rintro r wn ⟨hr, nn, hwn⟩
            rw [HRD.out] at hr
            subst hr
            have hM : M.Made M.PM w wn b v m := by rw [hwn]; exact HQ.out.1.drewN nn
            have hL : H.BlkF wn w1.heap.size 40 16 (fun j => .int .u32 ((last j : Nat) : Int)) := by rw [hwn]; exact HQ.out.2
            have d9 := HCL.out wn hL
            have HP := Lib.hid (And.intro hM hL)
            clear hwn hM hL
            go_wp2_with fail
            go_roundg (g0 - 1)
            case measure => have := HG.out; have := HLT.out; omega
            case rel => exact ⟨a + 1, by have := HG.out; have := HLT.out; omega, by go_num, HP.out.1, HP.out.2⟩
          · obtain rfl : a = 16 := by omega
            clear ha ha'
            have hcn := HM.out.2.1.count
            have hof := HM.out.2.1.off
            by_cases hnk : n ≤ k
            · have hnki : (n : Int) ≤ (k : Int) := by omega
              have hnki2 : ¬ (k : Int) < (n : Int) := by omega
              rw [Nat.min_eq_left hnk] at hcn
              rw [decide_eq_true hnk] at hof
              have HC := Lib.hid (And.intro hcn hof)
              clear hcn hof hnk
              go_wp2_with fail
              refine (M.pwrites_any HQ.out.1.1).mono ?_
              rintro r w4 ⟨hr, hw4⟩
              rw [HC.out.1] at hr
              subst hr
              subst hw4
              go_wp2_with fail
              refine (M.pon_any HQ.out.1.1).mono ?_
              rintro r w4 ⟨hr, hw4⟩
              rw [HC.out.2] at hr
              subst hr
              subst hw4
              obtain ⟨o1, o2, dk, ct⟩ := HM.out.2.1.dark HQ39.out
              have HDK := Lib.hid (And.intro o1 (And.intro o2 (And.intro dk ct)))
              clear o1 o2 dk ct
              go_wp2_with fail
              refine (M.pfuse_any HQ.out.1.1 0).mono ?_
              rintro r w4 ⟨rfl, hp, hs⟩
              have M4 := Lib.hid (And.intro (HQ.out.1.step hp hs) (HQ.out.2.save hs NL.out))
              clear hp hs
              go_wp2_with fail
              refine (M.pfuse_any M4.out.1.1 5).mono ?_
              rintro r w5 ⟨rfl, hp, hs⟩
              have M5 := Lib.hid (And.intro (M4.out.1.step hp hs) (M4.out.2.save hs NL.out))
              clear hp hs
              go_wp2_with fail
              refine (M.pflip_mem M5.out.1.1 HDK.out.2.1 3 q).mono ?_
              rintro r w6 ⟨rfl, hp, hs⟩
              have M6 := Lib.hid (And.intro (M5.out.1.step hp hs) (M5.out.2.save hs NL.out))
              clear hp hs
              generalize ((m.fuse 0).fuse 5).flip 3 q = md at *
              have HRD := Lib.hid (HDK.out.2.2.1.read (HM.out.2.1.small 3 (by decide)) HQ39.out)
              have HSC := Lib.hid HDK.out.2.2.1.scrub
              have HWR := Lib.hid (HDK.out.2.2.1.write 9)
              have HBK := Lib.hid (HDK.out.2.2.1.back 9)
              go_wp2_with fail
              refine (M.pread_any M6.out.1.1 HDK.out.2.2.1.ok (M6.out.1.tab TB.out) 3).mono ?_
              rintro r w7 ⟨hr, nn, hwn⟩
              rw [HRD.out] at hr
              subst hr
              have hM : M.Made M.PM w w7 b v md := by rw [hwn]; exact M6.out.1.drewN nn
              have hL : H.BlkF w7 w1.heap.size 40 16 (fun j => .int .u32 ((last j : Nat) : Int)) := by rw [hwn]; exact M6.out.2
              have M7 := Lib.hid (And.intro hM hL)
              clear hwn hM hL
              have h := M.pscrub_any M7.out.1.1 HDK.out.2.2.1.ok (M7.out.1.tab TB.out) 16
              unfold M.ScrubPost at h
              rw [HSC.out.1, HSC.out.2, show M.Mem.found md 1 0 = 0 from rfl, show M.Mem.found md 2 0 = 0 from rfl] at h
              have HH := Lib.hid h
              clear h
              go_wp2_with fail
              refine HH.out.mono ?_
              rintro r w8 ⟨rfl, hp, hs⟩
              have M8 := Lib.hid (And.intro ((M7.out.1.step hp hs).keep ((Below.refl _ _).alloc (Nat.le_refl _) (.cells #[.int .i64 0, .int .i64 0, .int .i64 0] 54))) ((M7.out.2.save hs NL.out).keep ((Below.refl _ _).alloc (Nat.le_refl _) (.cells #[.int .i64 0, .int .i64 0, .int .i64 0] 54))))
              have Z8 : Hid ((w8.alloc (.cells #[.int .i64 0, .int .i64 0, .int .i64 0] 54)).heap[w8.heap.size]? = some (.cells #[.int .i64 0, .int .i64 0, .int .i64 0] 54 (0, 0))) := Lib.hid (heap_alloc_new w8 _)
              have N8 : Hid (¬ H.FT b v w8.heap.size) := Lib.hid (fun e => by have := hp.lt _ e; omega)
              clear hp hs
              have h := M.pwrite_any M8.out.1.1 HDK.out.2.2.1.ok (M8.out.1.tab TB.out) (by have := HDK.out.2.2.2; have := HN60.out.1; omega) 3 9 (by decide)
              rw [HWR.out.1, HWR.out.2] at h
              have HH2 := Lib.hid h
              clear h
              go_wp2_with fail
              refine HH2.out.mono ?_
              rintro r w9 ⟨rfl, hp, hs⟩
              have M9 := Lib.hid (And.intro (M8.out.1.step hp hs) (M8.out.2.save hs NL.out))
              have Z9 := Lib.hid ((hs.block _ (H.blk_lt Z8.out) N8.out).trans Z8.out)
              clear hp hs
              go_wp2_with fail
              refine (M.preset_any M9.out.1.1).mono ?_
              rintro r w10 ⟨rfl, hp, hs⟩
              have M10 := Lib.hid (And.intro (M9.out.1.step hp hs) (M9.out.2.save hs NL.out))
              have z10 := (hs.block _ (H.blk_lt Z9.out) N8.out).trans Z9.out
              have d0 := H.blk_cell z10 0
              have d1 := H.blk_cell z10 1
              have d2 := H.blk_cell z10 2
              simp only [List.getElem?_toArray, List.getElem?_cons_succ, List.getElem?_cons_zero] at d0 d1 d2
              have d9 := M10.out.2.cell (show 3 < 16 by decide)
              clear hp hs z10
              have h := M.pwrite_any M10.out.1.1 HBK.out.1 (M10.out.1.tab TB.out) (by have := HDK.out.2.2.2; have := HN60.out.1; show md.count < 1000000; omega) 3 9 (by decide)
              rw [HBK.out.2.1] at h
              have HH3 := Lib.hid h
              clear h
              go_wp2_with fail
              refine HH3.out.mono ?_
              rintro r w11 ⟨rfl, hp, hs⟩
              have M11 := Lib.hid (M10.out.1.step hp hs)
              clear hp hs d0 d1 d2 d9
              go_wp2_with fail
              refine (M.pon_any M11.out.1).mono ?_
              rintro r w12 ⟨hr, hw12⟩
              rw [HBK.out.2.2] at hr
              subst hr
              subst hw12
              go_wp2_with fail
              refine (M.plives_any _ (M11.out.tab TB.out)).mono ?_
              rintro r wl ⟨rfl, hl⟩
              have HB := Lib.hid (M11.out.2.2.trans (hl.mono M11.out.2.2.size))
              clear hl
              go_wp2_with fail
              go_ret
              exact ⟨rfl, HB.out⟩
            · have hnki : ¬ (n : Int) ≤ (k : Int) := by omega
              have hnki2 : (k : Int) < (n : Int) := by omega
              rw [Nat.min_eq_right (by omega)] at hcn
              rw [decide_eq_false hnk] at hof
              have HC := Lib.hid (And.intro hcn hof)
              clear hcn hof hnk
              go_wp2_with fail
              refine (M.pwrites_any HQ.out.1.1).mono ?_
              rintro r w4 ⟨hr, hw4⟩
              rw [HC.out.1] at hr
              subst hr
              subst hw4
              go_wp2_with fail
              refine (M.pon_any HQ.out.1.1).mono ?_
              rintro r w4 ⟨hr, hw4⟩
              rw [HC.out.2] at hr
              subst hr
              subst hw4
              obtain ⟨o1, o2, dk, ct⟩ := HM.out.2.1.dark HQ39.out
              have HDK := Lib.hid (And.intro o1 (And.intro o2 (And.intro dk ct)))
              clear o1 o2 dk ct
              go_wp2_with fail
              refine (M.pfuse_any HQ.out.1.1 0).mono ?_
              rintro r w4 ⟨rfl, hp, hs⟩
              have M4 := Lib.hid (And.intro (HQ.out.1.step hp hs) (HQ.out.2.save hs NL.out))
              clear hp hs
              go_wp2_with fail
              refine (M.pfuse_any M4.out.1.1 5).mono ?_
              rintro r w5 ⟨rfl, hp, hs⟩
              have M5 := Lib.hid (And.intro (M4.out.1.step hp hs) (M4.out.2.save hs NL.out))
              clear hp hs
              go_wp2_with fail
              refine (M.pflip_mem M5.out.1.1 HDK.out.2.1 3 q).mono ?_
              rintro r w6 ⟨rfl, hp, hs⟩
              have M6 := Lib.hid (And.intro (M5.out.1.step hp hs) (M5.out.2.save hs NL.out))
              clear hp hs
              generalize ((m.fuse 0).fuse 5).flip 3 q = md at *
              have HRD := Lib.hid (HDK.out.2.2.1.read (HM.out.2.1.small 3 (by decide)) HQ39.out)
              have HSC := Lib.hid HDK.out.2.2.1.scrub
              have HWR := Lib.hid (HDK.out.2.2.1.write 9)
              have HBK := Lib.hid (HDK.out.2.2.1.back 9)
              go_wp2_with fail
              refine (M.pread_any M6.out.1.1 HDK.out.2.2.1.ok (M6.out.1.tab TB.out) 3).mono ?_
              rintro r w7 ⟨hr, nn, hwn⟩
              rw [HRD.out] at hr
              subst hr
              have hM : M.Made M.PM w w7 b v md := by rw [hwn]; exact M6.out.1.drewN nn
              have hL : H.BlkF w7 w1.heap.size 40 16 (fun j => .int .u32 ((last j : Nat) : Int)) := by rw [hwn]; exact M6.out.2
              have M7 := Lib.hid (And.intro hM hL)
              clear hwn hM hL
              have h := M.pscrub_any M7.out.1.1 HDK.out.2.2.1.ok (M7.out.1.tab TB.out) 16
              unfold M.ScrubPost at h
              rw [HSC.out.1, HSC.out.2, show M.Mem.found md 1 0 = 0 from rfl, show M.Mem.found md 2 0 = 0 from rfl] at h
              have HH := Lib.hid h
              clear h
              go_wp2_with fail
              refine HH.out.mono ?_
              rintro r w8 ⟨rfl, hp, hs⟩
              have M8 := Lib.hid (And.intro ((M7.out.1.step hp hs).keep ((Below.refl _ _).alloc (Nat.le_refl _) (.cells #[.int .i64 0, .int .i64 0, .int .i64 0] 54))) ((M7.out.2.save hs NL.out).keep ((Below.refl _ _).alloc (Nat.le_refl _) (.cells #[.int .i64 0, .int .i64 0, .int .i64 0] 54))))
              have Z8 : Hid ((w8.alloc (.cells #[.int .i64 0, .int .i64 0, .int .i64 0] 54)).heap[w8.heap.size]? = some (.cells #[.int .i64 0, .int .i64 0, .int .i64 0] 54 (0, 0))) := Lib.hid (heap_alloc_new w8 _)
              have N8 : Hid (¬ H.FT b v w8.heap.size) := Lib.hid (fun e => by have := hp.lt _ e; omega)
              clear hp hs
              have h := M.pwrite_any M8.out.1.1 HDK.out.2.2.1.ok (M8.out.1.tab TB.out) (by have := HDK.out.2.2.2; have := HN60.out.1; omega) 3 9 (by decide)
              rw [HWR.out.1, HWR.out.2] at h
              have HH2 := Lib.hid h
              clear h
              go_wp2_with fail
              refine HH2.out.mono ?_
              rintro r w9 ⟨rfl, hp, hs⟩
              have M9 := Lib.hid (And.intro (M8.out.1.step hp hs) (M8.out.2.save hs NL.out))
              have Z9 := Lib.hid ((hs.block _ (H.blk_lt Z8.out) N8.out).trans Z8.out)
              clear hp hs
              go_wp2_with fail
              refine (M.preset_any M9.out.1.1).mono ?_
              rintro r w10 ⟨rfl, hp, hs⟩
              have M10 := Lib.hid (And.intro (M9.out.1.step hp hs) (M9.out.2.save hs NL.out))
              have z10 := (hs.block _ (H.blk_lt Z9.out) N8.out).trans Z9.out
              have d0 := H.blk_cell z10 0
              have d1 := H.blk_cell z10 1
              have d2 := H.blk_cell z10 2
              simp only [List.getElem?_toArray, List.getElem?_cons_succ, List.getElem?_cons_zero] at d0 d1 d2
              have d9 := M10.out.2.cell (show 3 < 16 by decide)
              clear hp hs z10
              have h := M.pwrite_any M10.out.1.1 HBK.out.1 (M10.out.1.tab TB.out) (by have := HDK.out.2.2.2; have := HN60.out.1; show md.count < 1000000; omega) 3 9 (by decide)
              rw [HBK.out.2.1] at h
              have HH3 := Lib.hid h
              clear h
              go_wp2_with fail
              refine HH3.out.mono ?_
              rintro r w11 ⟨rfl, hp, hs⟩
              have M11 := Lib.hid (M10.out.1.step hp hs)
              clear hp hs d0 d1 d2 d9
              go_wp2_with fail
              refine (M.pon_any M11.out.1).mono ?_
              rintro r w12 ⟨hr, hw12⟩
              rw [HBK.out.2.2] at hr
              subst hr
              subst hw12
              go_wp2_with fail
              refine (M.plives_any _ (M11.out.tab TB.out)).mono ?_
              rintro r wl ⟨rfl, hl⟩
              have HB := Lib.hid (M11.out.2.2.trans (hl.mono M11.out.2.2.size))
              clear hl
              go_wp2_with fail
              go_ret
              exact ⟨rfl, HB.out⟩

theorem reads (os : Os) {H0 : Type} (enc : TypeId × Value → H0) : ∃ places, DataW.whole enc Tryd.prog ((Go.Proofs.YtehpbjkacdmlaaaDoor.E.laidWorld os).forCall (fun _ _ => 0) ⟨#[], #[.slice none 0 0, .int .u8 0, .int .u8 0], []⟩).memory Tryd.f8.params.toList Rows.memoryPowerLossSpec.vars false (#[.slice none 0 0, .int .u8 0, .int .u8 0] : Array Value).toList 8 = some ([.nil, .lit (.int .u8 0), .lit (.int .u8 0)], [], places) :=
  ⟨[], by kernel_rfl⟩
set_option maxRecDepth 100000 in
theorem lifted (os : Os) (started : os.Started) (H0 : Type) (enc : TypeId × Value → H0) (F0 : Stop.Interp) :
    ReturnsInHanded {} Tryd.checked os 8 .any ((OpenSpec.ofChange Rows.memoryPowerLossSpec).preRow enc Tryd.prog Tryd.f8 Rows.memoryPowerLossRow.domain false Rows.memoryPowerLossRow.laid) (((OpenSpec.ofChange Rows.memoryPowerLossSpec).at F0).post enc Tryd.prog Tryd.f8 false true false false) := by
  obtain ⟨places, hx⟩ := reads os enc
  refine returnsInHanded_of_row (C := Tryd.checked) (s := (OpenSpec.ofChange Rows.memoryPowerLossSpec)) Go.Proofs.YtehpbjkacdmlaaaDoor.O.own started (by kernel_rfl) Tryd.func8
    (witness_row_at (enc := enc) (C := Tryd.checked) false (Go.Proofs.YtehpbjkacdmlaaaDoor.E.laidWorld os) #[.slice none 0 0, .int .u8 0, .int .u8 0] rfl (by kernel_rfl) (by kernel_rfl) (by kernel_rfl)
      (OpenSpec.preRow_of_cond 8 hx (by kernel_rfl) (fun k hk => by cases hk) (by kernel_rfl) (Go.Proofs.YtehpbjkacdmlaaaDoor.E.laid_met os _))) ?_
  intro W base args ds gs before hval0 hW _ hk0 hsz0 hL _ _
  have hsz : (DataW.weightsEach Tryd.prog (Tryd.f8.params.toList ++ (OpenSpec.ofChange Rows.memoryPowerLossSpec).bare.plain.varTypes Tryd.prog) (ds ++ gs)).all (· ≤ reachBytes) = true := hsz0
  clear hsz0
  have hval : ∀ (j : Nat) t v, Tryd.f8.params[j]? = some t → args[j]? = some v → Value.okWide Tryd.prog W .any base t v := hval0
  have hW' := hW
  obtain ⟨p, q, hA0, hV, rfl, hfz, hnd⟩ := hW
  have hA : DataW.TrodAll enc Tryd.prog W 0 (fun _ => true) true Tryd.f8.params.toList args.toList ds p := hA0
  rw [Tryd.params8] at hA hval hsz
  obtain ⟨v0, vs0, d0, ds0, p0, q0, hargs, rfl, rfl, h0, r0⟩ := trodAll_cons hA
  obtain ⟨v1, vs1, d1, ds1, p1, q1, rfl, rfl, rfl, h1, r1⟩ := trodAll_cons r0
  obtain ⟨v2, vs2, d2, ds2, p2, q2, rfl, rfl, rfl, h2, r2⟩ := trodAll_cons r1
  obtain ⟨rfl, rfl, rfl⟩ := trodAll_nil r2
  obtain rfl : args = #[v0, v1, v2] := by cases args; simp_all
  obtain ⟨rfl, rfl⟩ := trodVars_none hV
  obtain ⟨a0, n0, c0, rfl⟩ := okWide_slice Tryd.underlying38 (hval 0 38 v0 rfl rfl)
  have k0 := h0
  have lt0 : ∀ x ∈ p0, x.block < W.heap.size := by obtain ⟨m, hm⟩ := k0; exact DataW.trod_lt m _ _ _ hm
  obtain ⟨z0, l0, cp0, cq0, nz0, rd0, ok0⟩ := Go.Proofs.YtehpbjkacdmlaaaDoor.M.open_Evs h0
  obtain ⟨a1, rfl, rfl, rfl, w1⟩ := open_int Tryd.underlying5 (hval 1 5 v1 rfl rfl) h1
  obtain ⟨a2, rfl, rfl, rfl, w2⟩ := open_int Tryd.underlying5 (hval 2 5 v2 rfl rfl) h2
  clear hA0 hval0
  have tb := Go.Proofs.YtehpbjkacdmlaaaDoor.E.tab_of_laid hL
  refine (walk a0 n0 c0 z0 a1 a2 W tb l0 ⟨cp0, cq0⟩ nz0 rd0 ok0 w1 w2).mono fun e W' ⟨he, bel⟩ => ?_
  subst he
  exact ⟨_, rfl, _, _, _, [], _, [], hW', trodAll_mk1 (shut_bool Tryd.underlying4 _), (trodAll_cons_mk (Below.trod Go.Proofs.YtehpbjkacdmlaaaDoor.O.laidOut (by kernel_rfl) (of_decide_eq_true (by kernel_rfl)) k0 bel lt0) (trodAll_cons_mk (shut_int Tryd.underlying5 w1) (trodAll_cons_mk (shut_int Tryd.underlying5 w2) trodAll_mk0))), rfl, bel.frame _, fun h => by cases h⟩

theorem said : Rows.MemoryPowerLossSaid :=
  OpenClaim.holds_of_cond 8 Tryd.f8 rfl rfl rfl rfl rfl rfl rfl ⟨rfl, rfl, rfl, rfl, rfl⟩ rfl rfl rfl rfl rfl (by kernel_rfl) Tryd.func8 (by kernel_rfl)
    (of_decide_eq_true (by kernel_rfl)) (by unfold Func.isWrapper; first | (rw [if_pos (by decide +kernel)]; kernel_rfl) | (rw [if_neg (by decide +kernel)]; exact ⟨rfl, rfl⟩))
    (fun os started H0 enc _ F0 => by rw [OpenClaim.pre_eq_preRow]; exact lifted os started H0 enc F0)
theorem plain (f : FuncId) (fn : Func) (hf : Tryd.pinned.checked.prog.funcNamed "perigee/perigeelaw06.MemoryPowerLoss" = some f) (hfn : Tryd.pinned.checked.prog.funcs[f]? = some fn) :
    false = Tryd.pinned.checked.prog.looks [] ∧ ∀ (j : Nat) t, fn.params[j]? = some t → Tryd.pinned.checked.prog.wantsStandIn t = false := by
  obtain rfl : f = 8 := Option.some.inj ((show Tryd.prog.funcNamed "perigee/perigeelaw06.MemoryPowerLoss" = some 8 by kernel_rfl).symm.trans hf) |>.symm
  obtain rfl : fn = Tryd.f8 := (Option.some.inj (Tryd.func8.symm.trans hfn)).symm
  refine ⟨by kernel_rfl, fun j t ht => ?_⟩
  rw [Tryd.params8] at ht
  have hm : t ∈ [38, 5, 5] := by simpa using Array.mem_of_getElem? ht
  have hall : ([38, 5, 5].all fun u => !Tryd.prog.wantsStandIn u) = true := by kernel_rfl
  exact (show Tryd.prog.wantsStandIn t = false by simpa using List.all_eq_true.1 hall t hm)
/-- ████ THE CARD ████ -/
theorem proved : Rows.MemoryPowerLossCardSaid :=
  Claim7.holds_tied_plain_at .later [] _ _ _ _ said (fun _ h => by cases h) (by kernel_rfl) (fun _ h => by cases h) memoryPowerLoss_row_tie rfl ⟨rfl, rfl⟩ (by kernel_rfl) rfl plain (by kernel_rfl)
end Go.Proofs.YtehpbjkacdmlaaaDoor.memoryPowerLoss
