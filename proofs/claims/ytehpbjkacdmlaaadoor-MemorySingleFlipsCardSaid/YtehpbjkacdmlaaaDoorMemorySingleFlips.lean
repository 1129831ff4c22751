/-
  For every list of writes and flips, MemorySingleFlips returns true: for at most 100 writes and flips of 16 words, of which a flip is left out if the word has a flipped bit already, every word is read as it was written last; and the chapter's examples hold.
-/
import Derived.Test.YtehpbjkacdmlaaaDoorMLives
import Derived.Test.YtehpbjkacdmlaaaDoorMFlips
import Derived.Test.YtehpbjkacdmlaaaDoorMOpen
import Derived.Deep.DeepCutAuto
import Derived.Deep.RegionHeld3
import Derived.Deep.LoopGhost
import Derived.Deep.QuietTactic
namespace Go.Proofs.YtehpbjkacdmlaaaDoor.memorySingleFlips
open Go.ChangeShapes Go.WideShapes Go.ChangeAt Go.RowKit
open Go.ChangeMaps (open_string shut_string)
set_option linter.unusedVariables false

set_option maxRecDepth 100000 in
set_option maxHeartbeats 1000000 in
theorem walk (a0 : Option Addr) (n0 c0 : Nat) (z0 : List M.Ev) (w : World) (tb : E.Tab w) (l0 : z0.length = n0) (cp0 : n0 ≤ c0 ∧ c0 ≤ maxLen) (nz0 : a0 = none → c0 = 0) (rd0 : M.RdsEv w w.heap.size a0 z0) (ok0 : ∀ x ∈ z0, x.Ok) :
    Calls Tryd.prog 4 #[.slice a0 n0 c0] w fun e w' => e = .returned (.bool true) ∧ Below w.heap.size w w' := by
  have TB := Lib.hid tb
  have HL := Lib.hid l0
  have HR := Lib.hid rd0
  have HOK := Lib.hid ok0
  clear tb l0 cp0 nz0 rd0 ok0
  go_enter Tryd.func4, Tryd.ntmps4
  go_wp2_with fail
  refine (M.made_any 16 (by decide) (by decide) _ TB.out).mono ?_
  rintro r w0 ⟨b, v, rfl, hm⟩
  have M0 : Hid (M.Made M.PM w w0 b v (M.Mem.new 16)) := Lib.hid hm
  clear hm
  by_cases hbig : (100 : Int) < (n0 : Int)
  · go_wp2_with fail
    refine (M.plives_any _ (M0.out.tab TB.out)).mono ?_
    rintro r wl ⟨rfl, hl⟩
    have HB := Lib.hid (M0.out.2.2.trans (hl.mono M0.out.2.2.size))
    clear hl
    go_wp2_with fail
    go_ret
    exact ⟨rfl, HB.out⟩
  · have hn : n0 ≤ 100 := by omega
    have hb1 : Below w0.heap.size w0 ((w0.alloc (.cells ((List.range 16).map fun _ => Value.int .u32 0).toArray 40)).alloc (.cells ((List.range 16).map fun _ => Value.bool false).toArray 41)) := ((Below.refl _ _).alloc (Nat.le_refl _) _).alloc (by simp) _
    have hx1 : H.BlkF ((w0.alloc (.cells ((List.range 16).map fun _ => Value.int .u32 0).toArray 40)).alloc (.cells ((List.range 16).map fun _ => Value.bool false).toArray 41)) w0.heap.size 40 16 (fun _ => .int .u32 ((0 : Nat) : Int)) := by
      have h1 : H.BlkF (w0.alloc (.cells ((List.range 16).map fun _ => Value.int .u32 0).toArray 40)) w0.heap.size 40 16 (fun _ => .int .u32 ((0 : Nat) : Int)) := heap_alloc_new w0 _
      exact h1.keep ((Below.refl _ _).alloc (Nat.le_refl _) _)
    have hx2 : H.BlkF ((w0.alloc (.cells ((List.range 16).map fun _ => Value.int .u32 0).toArray 40)).alloc (.cells ((List.range 16).map fun _ => Value.bool false).toArray 41)) (w0.heap.size + 1) 41 16 (fun _ => .bool false) := by
      have := heap_alloc_new (w0.alloc (.cells ((List.range 16).map fun _ => Value.int .u32 0).toArray 40)) (.cells ((List.range 16).map fun _ => Value.bool false).toArray 41)
      unfold H.BlkF
      rw [← this]
      simp
    have M1 := Lib.hid (And.intro (M0.out.keep hb1) (And.intro hx1 hx2))
    have NL : Hid (¬ H.FT b v w0.heap.size ∧ ¬ H.FT b v (w0.heap.size + 1)) := Lib.hid ⟨fun e => by have := M0.out.1.lt _ e; omega, fun e => by have := M0.out.1.lt _ e; omega⟩
    clear hb1 hx1 hx2
    go_wp2_with fail
    go_loopg [6, 7, 8, 9, 10] n0 (fun g i _ _ _ _ wr => ∃ (k : Nat) (m : M.Mem) (last : Nat → Nat) (fl : Nat → Bool), k + g = n0 ∧ i = .int .i64 (k : Nat) ∧ M.Made M.PM w wr b v m ∧ M.Kept last fl m ∧ m.count ≤ k ∧ H.BlkF wr w0.heap.size 40 16 (fun j => .int .u32 ((last j : Nat) : Int)) ∧ H.BlkF wr (w0.heap.size + 1) 41 16 (fun j => .bool (fl j)))
    case atStart => exact ⟨0, _, _, _, Nat.zero_add _, rfl, M1.out.1, M.Kept.start, Nat.zero_le _, M1.out.2.1, M1.out.2.2⟩
    case round =>
      obtain ⟨k, m, last, fl, hg, rfl, hmd, hkp, hct, hbl, hbf⟩ := hrel
      have HG := Lib.hid hg
      have hk : k ≤ n0 := by omega
      have HM := Lib.hid (And.intro hmd (And.intro hkp (And.intro hct (And.intro hbl hbf))))
      have hkB := hmd.2.2
      clear hg hmd hkp hct hbl hbf
      by_cases hlt : k < n0
      · obtain ⟨ev, hev⟩ : ∃ e, z0[k]? = some e := ⟨_, List.getElem?_eq_getElem (by rw [HL.out]; exact hlt)⟩
        obtain ⟨ad, rfl, hab, hcs⟩ := (HR.out.below hkB) k ev hev
        have hevk := HOK.out ev (List.mem_of_getElem? hev)
        have HLT := Lib.hid hlt
        have hki : (k : Int) < (n0 : Int) := by omega
        have hk0 : (0 : Int) ≤ (k : Int) := by omega
        obtain ⟨a, hae⟩ : ∃ a, ev.a % 16 = a := ⟨_, rfl⟩
        have ha : a < 16 := by omega
        have ea : (ev.a : Int) % 16 = (a : Int) := by omega
        obtain ⟨q, hqe⟩ : ∃ q, ev.bit % 39 = q := ⟨_, rfl⟩
        have hq : q < 39 := by omega
        have eq : (ev.bit : Int) % 39 = (q : Int) := by omega
        have ha2 : (a : Int) < 16 := by omega
        have ha0 : (0 : Int) ≤ (a : Int) := by omega
        obtain ⟨e0, e1, e2, e3⟩ := hcs
        have b0 := hevk.a
        have b1 := hevk.bit
        have b3 := hevk.w
        have HAB := Lib.hid hab
        have HCS := Lib.hid (fun W (hb : Below w.heap.size wr W) => (And.intro ((hb.cell (p := ad.add (k * 4)) (by rw [H.add_block]; exact hab)).trans e0) (And.intro ((hb.cell (p := ⟨(ad.add (k * 4)).block, (ad.add (k * 4)).off + 1, none⟩) (by show (ad.add (k * 4)).block < _; rw [H.add_block]; exact hab)).trans e1) (And.intro ((hb.cell (p := ⟨(ad.add (k * 4)).block, (ad.add (k * 4)).off + 2, none⟩) (by show (ad.add (k * 4)).block < _; rw [H.add_block]; exact hab)).trans e2) ((hb.cell (p := ⟨(ad.add (k * 4)).block, (ad.add (k * 4)).off + 3, none⟩) (by show (ad.add (k * 4)).block < _; rw [H.add_block]; exact hab)).trans e3)))))
        clear hevk hae hqe hlt hev
        cases hfl : ev.flip with
        | false =>
          rw [hfl] at e2
          obtain ⟨s1, s2, s3⟩ := HM.out.2.1.write ha b3
          have h := M.pwrite_any HM.out.1.1 HM.out.2.1.ok (HM.out.1.tab TB.out) (by have := HM.out.2.2.1; omega) a ev.w b3
          rw [s1] at h
          have HH := Lib.hid h
          have HS := Lib.hid (And.intro s2 s3)
          clear s1 s2 s3 h hkB hab
          go_wp2_with fail
          refine HH.out.mono ?_
          rintro r w2 ⟨rfl, hp, hs⟩
          have m2 := HM.out.1.step hp hs
          have l2 := HM.out.2.2.2.1.save hs NL.out.1
          have f2 := HM.out.2.2.2.2.save hs NL.out.2
          have hbw : Below w.heap.size wr w2 := hs.below HM.out.1.2.2.size HM.out.1.2.1
          obtain ⟨g0, g1, g2, g3⟩ := HCS.out w2 hbw
          have x2 := l2.cell ha
          have y2 := l2.soft a
          have x3 := f2.cell ha
          have y3 := f2.soft a
          have l3 := (l2.set a (.int .u32 ((ev.w : Nat) : Int)))
          have x4 := (f2.other (c := w0.heap.size) (i := a) (v := .int .u32 ((ev.w : Nat) : Int)) (by omega)).cell ha
          have y4 := (f2.other (c := w0.heap.size) (i := a) (v := .int .u32 ((ev.w : Nat) : Int)) (by omega)).soft a
          have f4 := (f2.other (c := w0.heap.size) (i := a) (v := .int .u32 ((ev.w : Nat) : Int)) (by omega)).set a (.bool false)
          have l4 := l3.other (c := w0.heap.size + 1) (i := a) (v := .bool false) (by omega)
          have m4 : M.Made M.PM w ((w2.setCell ⟨w0.heap.size, a, none⟩ (.int .u32 ((ev.w : Nat) : Int))).setCell ⟨w0.heap.size + 1, a, none⟩ (.bool false)) b v (m.write a ev.w) :=
            ⟨m2.1.save (F := fun j => j = w0.heap.size ∨ j = w0.heap.size + 1) (((H.Save.refl _ _).setCell (p := ⟨w0.heap.size, a, none⟩) (.inl rfl) _).setCell (p := ⟨w0.heap.size + 1, a, none⟩) (.inr rfl) _) (fun j hj e => by rcases e with rfl | rfl; exact NL.out.1 hj; exact NL.out.2 hj), m2.2.1, (m2.2.2.setCell (p := ⟨w0.heap.size, a, none⟩) (M0.out.2.2.size) _).setCell (p := ⟨w0.heap.size + 1, a, none⟩) (Nat.le_succ_of_le M0.out.2.2.size) _⟩
          have l5 : H.BlkF ((w2.setCell ⟨w0.heap.size, a, none⟩ (.int .u32 ((ev.w : Nat) : Int))).setCell ⟨w0.heap.size + 1, a, none⟩ (.bool false)) w0.heap.size 40 16 (fun j => .int .u32 ((H.upd last a ev.w j : Nat) : Int)) := l4.congr fun j hj => by unfold H.upd; split <;> rfl
          have f5 : H.BlkF ((w2.setCell ⟨w0.heap.size, a, none⟩ (.int .u32 ((ev.w : Nat) : Int))).setCell ⟨w0.heap.size + 1, a, none⟩ (.bool false)) (w0.heap.size + 1) 41 16 (fun j => .bool (H.upd fl a false j)) := f4.congr fun j hj => by unfold H.upd; split <;> rfl
          have M5 := Lib.hid (And.intro m4 (And.intro l5 f5))
          clear hp hs m2 l2 f2 l3 l4 f4 m4 l5 f5 hbw
          have hrd := HS.out.2.read ha
          have HRD := Lib.hid hrd
          clear hrd
          have c9 := M5.out.2.1.cell ha
          go_wp2_with fail
          refine (M.pread_any M5.out.1.1 HS.out.2.ok (M5.out.1.tab TB.out) a).mono ?_
          rintro r wn ⟨hr, nn, hwn⟩
          rw [HRD.out] at hr
          subst hr
          have hM : M.Made M.PM w wn b v (m.write a ev.w) := by rw [hwn]; exact M5.out.1.drewN nn
          have hL : H.BlkF wn w0.heap.size 40 16 (fun j => .int .u32 ((H.upd last a ev.w j : Nat) : Int)) := by rw [hwn]; exact M5.out.2.1
          have hF : H.BlkF wn (w0.heap.size + 1) 41 16 (fun j => .bool (H.upd fl a false j)) := by rw [hwn]; exact M5.out.2.2
          have d9 := hL.cell ha
          have HQ := Lib.hid (And.intro hM (And.intro hL hF))
          clear hwn hM hL hF c9
          go_wp2_with fail
          go_roundg (gk - 1)
          case measure => have := HG.out; have := HLT.out; omega
          case rel => exact ⟨k + 1, _, _, _, by have := HG.out; have := HLT.out; omega, by go_num, HQ.out.1, HS.out.2, by have := HS.out.1; have := HM.out.2.2.1; omega, HQ.out.2.1, HQ.out.2.2⟩
        | true =>
          rw [hfl] at e2
          cases hf : fl a with
          | true =>
            have x3 := HM.out.2.2.2.2.cell ha
            rw [hf] at x3
            clear hkB hab
            have hrd := HM.out.2.1.read ha
            have HRD := Lib.hid hrd
            clear hrd
            have c9 := HM.out.2.2.2.1.cell ha
            go_wp2_with fail
            refine (M.pread_any HM.out.1.1 HM.out.2.1.ok (HM.out.1.tab TB.out) a).mono ?_
            rintro r wn ⟨hr, nn, hwn⟩
            rw [HRD.out] at hr
            subst hr
            have hM : M.Made M.PM w wn b v m := by rw [hwn]; exact HM.out.1.drewN nn
            have hL : H.BlkF wn w0.heap.size 40 16 (fun j => .int .u32 ((last j : Nat) : Int)) := by rw [hwn]; exact HM.out.2.2.2.1
            have hF : H.BlkF wn (w0.heap.size + 1) 41 16 (fun j => .bool (fl j)) := by rw [hwn]; exact HM.out.2.2.2.2
            have d9 := hL.cell ha
            have HQ := Lib.hid (And.intro hM (And.intro hL hF))
            clear hwn hM hL hF c9
            go_wp2_with fail
            go_roundg (gk - 1)
            case measure => have := HG.out; have := HLT.out; omega
            case rel => exact ⟨k + 1, _, _, _, by have := HG.out; have := HLT.out; omega, by go_num, HQ.out.1, HM.out.2.1, by have := Nat.le_refl m.count; have := HM.out.2.2.1; omega, HQ.out.2.1, HQ.out.2.2⟩
          | false =>
            have x3 := HM.out.2.2.2.2.cell ha
            rw [hf] at x3
            obtain ⟨s1, s2, s3⟩ := HM.out.2.1.flip ha hq hf
            have h := M.pflip_mem HM.out.1.1 HM.out.2.1.ok a q
            rw [s1] at h
            have HH := Lib.hid h
            have HS := Lib.hid (And.intro s2 s3)
            clear s1 s2 s3 h hkB hab hf
            go_wp2_with fail
            refine HH.out.mono ?_
            rintro r w2 ⟨rfl, hp, hs⟩
            have m2 := HM.out.1.step hp hs
            have l2 := HM.out.2.2.2.1.save hs NL.out.1
            have f2 := HM.out.2.2.2.2.save hs NL.out.2
            have x4 := f2.cell ha
            have y4 := f2.soft a
            have f4 := f2.set a (.bool true)
            have l4 := l2.other (c := w0.heap.size + 1) (i := a) (v := .bool true) (by omega)
            have m4 : M.Made M.PM w (w2.setCell ⟨w0.heap.size + 1, a, none⟩ (.bool true)) b v (m.flip a q) :=
              ⟨m2.1.save (F := fun j => j = w0.heap.size + 1) (H.Save.setCell (F := fun j => j = w0.heap.size + 1) (H.Save.refl _ _) (p := ⟨w0.heap.size + 1, a, none⟩) rfl _) (fun j hj e => by subst e; exact NL.out.2 hj), m2.2.1, m2.2.2.setCell (p := ⟨w0.heap.size + 1, a, none⟩) (Nat.le_succ_of_le M0.out.2.2.size) _⟩
            have f5 : H.BlkF (w2.setCell ⟨w0.heap.size + 1, a, none⟩ (.bool true)) (w0.heap.size + 1) 41 16 (fun j => .bool (H.upd fl a true j)) := f4.congr fun j hj => by unfold H.upd; split <;> rfl
            have M5 := Lib.hid (And.intro m4 (And.intro l4 f5))
            clear hp hs m2 l2 f2 l4 f4 m4 f5
            have hrd := HS.out.2.read ha
            have HRD := Lib.hid hrd
            clear hrd
            have c9 := M5.out.2.1.cell ha
            go_wp2_with fail
            refine (M.pread_any M5.out.1.1 HS.out.2.ok (M5.out.1.tab TB.out) a).mono ?_
            rintro r wn ⟨hr, nn, hwn⟩
            rw [HRD.out] at hr
            subst hr
            have hM : M.Made M.PM w wn b v (m.flip a q) := by rw [hwn]; exact M5.out.1.drewN nn
            have hL : H.BlkF wn w0.heap.size 40 16 (fun j => .int .u32 ((last j : Nat) : Int)) := by rw [hwn]; exact M5.out.2.1
            have hF : H.BlkF wn (w0.heap.size + 1) 41 16 (fun j => .bool (H.upd fl a true j)) := by rw [hwn]; exact M5.out.2.2
            have d9 := hL.cell ha
            have HQ := Lib.hid (And.intro hM (And.intro hL hF))
            clear hwn hM hL hF c9
            go_wp2_with fail
            go_roundg (gk - 1)
            case measure => have := HG.out; have := HLT.out; omega
            case rel => exact ⟨k + 1, _, _, _, by have := HG.out; have := HLT.out; omega, by go_num, HQ.out.1, HS.out.2, by have := HS.out.1; have := HM.out.2.2.1; omega, HQ.out.2.1, HQ.out.2.2⟩
      · obtain rfl : k = n0 := by omega
        have hki : ¬ (k : Int) < (k : Int) := by omega
        clear hlt hk HG
        go_wp2_with fail
        go_loopg [11, 12, 13] 16 (fun g i _ _ wx => ∃ j : Nat, j + g = 16 ∧ i = .int .i64 (j : Nat) ∧ M.Made M.PM w wx b v m ∧ H.BlkF wx w0.heap.size 40 16 (fun j => .int .u32 ((last j : Nat) : Int)))
        case atStart => exact ⟨0, rfl, rfl, HM.out.1, HM.out.2.2.2.1⟩
        case round =>
          obtain ⟨a, hg, rfl, hmd, hbl⟩ := hrel
          generalize gk = g0 at *
          have HG := Lib.hid hg
          have ha' : a ≤ 16 := by omega
          have HQ := Lib.hid (And.intro hmd hbl)
          clear hg hmd hbl
          by_cases ha : a < 16
          · have ha2 : (a : Int) < 16 := by omega
            have ha0 : (0 : Int) ≤ (a : Int) := by omega
            have HRD := Lib.hid (HM.out.2.1.read ha)
            have HLT := Lib.hid ha
            have HCL := Lib.hid (fun W (h : H.BlkF W w0.heap.size 40 16 (fun j => .int .u32 ((last j : Nat) : Int))) => h.cell ha)
            clear ha ha'
            go_wp2_with fail
            refine (M.pread_any HQ.out.1.1 HM.out.2.1.ok (HQ.out.1.tab TB.out) a).mono ?_
            rintro r wn ⟨hr, nn, hwn⟩
            rw [HRD.out] at hr
            subst hr
            have hM : M.Made M.PM w wn b v m := by rw [hwn]; exact HQ.out.1.drewN nn
            have hL : H.BlkF wn w0.heap.size 40 16 (fun j => .int .u32 ((last j : Nat) : Int)) := by rw [hwn]; exact HQ.out.2
            have d9 := HCL.out wn hL
            have HP := Lib.hid (And.intro hM hL)
            clear hwn hM hL
            go_wp2_with fail
            go_roundg (g0 - 1)
            case measure => have := HG.out; have := HLT.out; omega
            case rel => exact ⟨a + 1, by have := HG.out; have := HLT.out; omega, by go_num, HP.out.1, HP.out.2⟩
          · obtain rfl : a = 16 := by omega
            clear ha ha'
            go_wp2_with fail
            refine (M.plives_any _ (HQ.out.1.tab TB.out)).mono ?_
            rintro r wl ⟨rfl, hl⟩
            have HB := Lib.hid (HQ.out.1.2.2.trans (hl.mono HQ.out.1.2.2.size))
            clear hl
            go_wp2_with fail
            go_ret
            exact ⟨rfl, HB.out⟩

theorem reads (os : Os) {H0 : Type} (enc : TypeId × Value → H0) : ∃ places, DataW.whole enc Tryd.prog ((Go.Proofs.YtehpbjkacdmlaaaDoor.E.laidWorld os).forCall (fun _ _ => 0) ⟨#[], #[.slice none 0 0], []⟩).memory Tryd.f4.params.toList Rows.memorySingleFlipsSpec.vars false (#[.slice none 0 0] : Array Value).toList 8 = some ([.nil], [], places) :=
  ⟨[], by kernel_rfl⟩
set_option maxRecDepth 100000 in
theorem lifted (os : Os) (started : os.Started) (H0 : Type) (enc : TypeId × Value → H0) (F0 : Stop.Interp) :
    ReturnsInHanded {} Tryd.checked os 4 .any ((OpenSpec.ofChange Rows.memorySingleFlipsSpec).preRow enc Tryd.prog Tryd.f4 Rows.memorySingleFlipsRow.domain false Rows.memorySingleFlipsRow.laid) (((OpenSpec.ofChange Rows.memorySingleFlipsSpec).at F0).post enc Tryd.prog Tryd.f4 false true false false) := by
  obtain ⟨places, hx⟩ := reads os enc
  refine returnsInHanded_of_row (C := Tryd.checked) (s := (OpenSpec.ofChange Rows.memorySingleFlipsSpec)) Go.Proofs.YtehpbjkacdmlaaaDoor.O.own started (by kernel_rfl) Tryd.func4
    (witness_row_at (enc := enc) (C := Tryd.checked) false (Go.Proofs.YtehpbjkacdmlaaaDoor.E.laidWorld os) #[.slice none 0 0] rfl (by kernel_rfl) (by kernel_rfl) (by kernel_rfl)
      (OpenSpec.preRow_of_cond 8 hx (by kernel_rfl) (fun k hk => by cases hk) (by kernel_rfl) (Go.Proofs.YtehpbjkacdmlaaaDoor.E.laid_met os _))) ?_
  intro W base args ds gs before hval0 hW _ hk0 hsz0 hL _ _
  have hsz : (DataW.weightsEach Tryd.prog (Tryd.f4.params.toList ++ (OpenSpec.ofChange Rows.memorySingleFlipsSpec).bare.plain.varTypes Tryd.prog) (ds ++ gs)).all (· ≤ reachBytes) = true := hsz0
  clear hsz0
  have hval : ∀ (j : Nat) t v, Tryd.f4.params[j]? = some t → args[j]? = some v → Value.okWide Tryd.prog W .any base t v := hval0
  have hW' := hW
  obtain ⟨p, q, hA0, hV, rfl, hfz, hnd⟩ := hW
  have hA : DataW.TrodAll enc Tryd.prog W 0 (fun _ => true) true Tryd.f4.params.toList args.toList ds p := hA0
  rw [Tryd.params4] at hA hval hsz
  obtain ⟨v0, vs0, d0, ds0, p0, q0, hargs, rfl, rfl, h0, r0⟩ := trodAll_cons hA
  obtain ⟨rfl, rfl, rfl⟩ := trodAll_nil r0
  obtain rfl : args = #[v0] := by cases args; simp_all
  obtain ⟨rfl, rfl⟩ := trodVars_none hV
  obtain ⟨a0, n0, c0, rfl⟩ := okWide_slice Tryd.underlying38 (hval 0 38 v0 rfl rfl)
  have k0 := h0
  have lt0 : ∀ x ∈ p0, x.block < W.heap.size := by obtain ⟨m, hm⟩ := k0; exact DataW.trod_lt m _ _ _ hm
  obtain ⟨z0, l0, cp0, cq0, nz0, rd0, ok0⟩ := Go.Proofs.YtehpbjkacdmlaaaDoor.M.open_Evs h0
  clear hA0 hval0
  have tb := Go.Proofs.YtehpbjkacdmlaaaDoor.E.tab_of_laid hL
  refine (walk a0 n0 c0 z0 W tb l0 ⟨cp0, cq0⟩ nz0 rd0 ok0).mono fun e W' ⟨he, bel⟩ => ?_
  subst he
  exact ⟨_, rfl, _, _, _, [], _, [], hW', trodAll_mk1 (shut_bool Tryd.underlying4 _), (trodAll_cons_mk (Below.trod Go.Proofs.YtehpbjkacdmlaaaDoor.O.laidOut (by kernel_rfl) (of_decide_eq_true (by kernel_rfl)) k0 bel lt0) trodAll_mk0), rfl, bel.frame _, fun h => by cases h⟩

theorem said : Rows.MemorySingleFlipsSaid :=
  OpenClaim.holds_of_cond 4 Tryd.f4 rfl rfl rfl rfl rfl rfl rfl ⟨rfl, rfl, rfl, rfl, rfl⟩ rfl rfl rfl rfl rfl (by kernel_rfl) Tryd.func4 (by kernel_rfl)
    (of_decide_eq_true (by kernel_rfl)) (by unfold Func.isWrapper; first | (rw [if_pos (by decide +kernel)]; kernel_rfl) | (rw [if_neg (by decide +kernel)]; exact ⟨rfl, rfl⟩))
    (fun os started H0 enc _ F0 => by rw [OpenClaim.pre_eq_preRow]; exact lifted os started H0 enc F0)
theorem plain (f : FuncId) (fn : Func) (hf : Tryd.pinned.checked.prog.funcNamed "perigee/perigeelaw06.MemorySingleFlips" = some f) (hfn : Tryd.pinned.checked.prog.funcs[f]? = some fn) :
    false = Tryd.pinned.checked.prog.looks [] ∧ ∀ (j : Nat) t, fn.params[j]? = some t → Tryd.pinned.checked.prog.wantsStandIn t = false := by
  obtain rfl : f = 4 := Option.some.inj ((show Tryd.prog.funcNamed "perigee/perigeelaw06.MemorySingleFlips" = some 4 by kernel_rfl).symm.trans hf) |>.symm
  obtain rfl : fn = Tryd.f4 := (Option.some.inj (Tryd.func4.symm.trans hfn)).symm
  refine ⟨by kernel_rfl, fun j t ht => ?_⟩
  rw [Tryd.params4] at ht
  have hm : t ∈ [38] := by simpa using Array.mem_of_getElem? ht
  have hall : ([38].all fun u => !Tryd.prog.wantsStandIn u) = true := by kernel_rfl
  exact (show Tryd.prog.wantsStandIn t = false by simpa using List.all_eq_true.1 hall t hm)
/-- ████ THE CARD ████ -/
theorem proved : Rows.MemorySingleFlipsCardSaid :=
  Claim7.holds_tied_plain_at .later [] _ _ _ _ said (fun _ h => by cases h) (by kernel_rfl) (fun _ h => by cases h) memorySingleFlips_row_tie rfl ⟨rfl, rfl⟩ (by kernel_rfl) rfl plain (by kernel_rfl)
end Go.Proofs.YtehpbjkacdmlaaaDoor.memorySingleFlips
