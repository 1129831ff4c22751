/-
  For all correlations whose counters lie less than 65536 counts ahead of a known one, ClockPackets returns true: writing their lowest 16 bits and the tick with package wire, reading them back and unwrapping them gives the same result of Correlate; and the chapter's examples hold.
-/
import Derived.Test.YtlmbpbhdbgadjaaKWire
import Derived.Test.YtlmbpbhdbgadjaaKChk
import Derived.Test.YtlmbpbhdbgadjaaKKp3
import Derived.Test.YtlmbpbhdbgadjaaKMath2
import Derived.Deep.DeepCutAuto
import Derived.Deep.RegionHeld3
import Derived.Deep.LoopGhost
import Derived.Deep.QuietTactic
namespace Go.Proofs.Ytlmbpbhdbgadjaa.clockPackets
open Go.ChangeShapes Go.WideShapes Go.ChangeAt Go.RowKit
open Go.ChangeMaps (open_string shut_string)
set_option linter.unusedVariables false

set_option maxRecDepth 100000 in
set_option maxHeartbeats 4000000 in
theorem walk (x0 : K.Cs) (a1 : Int) (w : World) (ok0 : x0.Ok) (w1 : (Lit.int .i64 a1).wf = true) :
    Calls Try.prog 13 #[x0.v, .int .i64 a1] w fun e w' => e = .returned (.bool true) ∧ Below w.heap.size w w' := by
  have q1 := H.i64_range w1
  have HL := Lib.hid (fun W => K.lives_any W)
  have HI := Lib.hid (fun W => K.interval_any x0 W ok0)
  have HK := Lib.hid (fun W => K.counted_any a1 W q1)
  have HD := Lib.hid (fun W => K.drift_any x0.drift W ok0.2.2.2.2.2.2)
  have HS := Lib.hid (fun W => H.around_any x0.sent 65536 ok0.2.2.1.1 ok0.2.2.1.2 (by omega) (by omega) W)
  have HT := Lib.hid (fun W => H.around_any x0.took 65536 ok0.2.2.2.1.1 ok0.2.2.2.1.2 (by omega) (by omega) W)
  have HQ := Lib.hid (fun W => H.around_any x0.tick 1000001 ok0.2.2.2.2.2.1.1 ok0.2.2.2.2.2.1.2 (by omega) (by omega) W)
  have HN := Lib.hid (fun W => H.around_any x0.since 100000 ok0.2.2.2.2.1.1 ok0.2.2.2.2.1.2 (by omega) (by omega) W)
  have N0 := (K.Kp.start w).newC x0 23
  have hkn := K.cnt_bd a1
  have hd := K.drf_bd x0.drift
  have hs := H.around_lt x0.sent (m := 65536) (by omega)
  have hk := H.around_lt x0.took (m := 65536) (by omega)
  have hq := H.around_lt x0.tick (m := 1000001) (by omega)
  have hn := H.around_lt x0.since (m := 100000) (by omega)
  clear ok0 w1 q1
  generalize K.tlo x0.lo = lo at *
  generalize K.thi x0.lo x0.wide = hi at *
  generalize K.cnt a1 = kn at *
  generalize K.drf x0.drift = d at *
  generalize H.around x0.sent 65536 = s0 at *
  generalize H.around x0.took 65536 = k0 at *
  generalize H.around x0.tick 1000001 = q at *
  generalize H.around x0.since 100000 = n0 at *
  have HU1 : RowKit.Hid (∀ W, Calls Try.prog 24 #[.int .i64 kn, .int .i64 ((kn + s0) % 65536)] W fun e w' => e = .returned (.int .i64 (kn + s0)) ∧ w' = W) :=
    Lib.hid (fun W => by have h := K.unwrap_any kn ((kn + s0) % 65536) W hkn.1 (by omega) (by omega) (by omega); rwa [show K.unw kn ((kn + s0) % 65536) = (kn + s0) by unfold K.unw; omega] at h)
  have HU2 : RowKit.Hid (∀ W, Calls Try.prog 24 #[.int .i64 (kn + s0), .int .i64 ((kn + s0 + k0) % 65536)] W fun e w' => e = .returned (.int .i64 (kn + s0 + k0)) ∧ w' = W) :=
    Lib.hid (fun W => by have h := K.unwrap_any (kn + s0) ((kn + s0 + k0) % 65536) W (by omega) (by omega) (by omega) (by omega); rwa [show K.unw (kn + s0) ((kn + s0 + k0) % 65536) = (kn + s0 + k0) by unfold K.unw; omega] at h)
  have HCO := Lib.hid (fun W => K.correlate_any lo hi (kn + s0) (kn + s0 + k0) q ((kn + s0 + k0) + n0) d W (by omega) hd.1 hd.2)
  generalize K.cor lo hi (kn + s0) (kn + s0 + k0) q ((kn + s0 + k0) + n0) d = R at *
  obtain ⟨ra, rb, re⟩ := R
  dsimp only at HCO
  have e1 : (kn + s0).tmod 65536 = (kn + s0) % 65536 := Int.tmod_eq_emod_of_nonneg (by omega)
  have e2 : (kn + s0 + k0).tmod 65536 = (kn + s0 + k0) % 65536 := Int.tmod_eq_emod_of_nonneg (by omega)
  have z1 : K.I64 ((kn + s0) % 65536) := ⟨by omega, by omega⟩
  have z2 : K.I64 ((kn + s0 + k0) % 65536) := ⟨by omega, by omega⟩
  have z3 : K.I64 q := ⟨by omega, by omega⟩
  have HPI := Lib.hid (fun X => K.pk_ints X 3 ((kn + s0) % 65536) ((kn + s0 + k0) % 65536) q z1 z2 z3)
  have hpl := K.pk_len z1 z2 z3
  have HPB := Lib.hid (K.pk_byt [(kn + s0) % 65536, (kn + s0 + k0) % 65536, q])
  have HPR := Lib.hid (K.pk_rL z1 z2 z3)
  generalize W.encU 3 ++ W.encL [(kn + s0) % 65536, (kn + s0 + k0) % 65536, q] = bs at *
  have hw1 : IntKind.i64.wrap (kn + s0 + k0) = kn + s0 + k0 := IntWalk.i64_in _ (by omega)
  have hw2 : IntKind.i64.wrap ((kn + s0 + k0) + n0) = (kn + s0 + k0) + n0 := IntWalk.i64_in _ (by omega)
  have hbd : 0 ≤ (kn + s0) ∧ 0 ≤ (kn + s0 + k0) := by omega
  clear hk hn hd hq z1 z2 z3
  go_enter Try.func13, Try.ntmps13
  go_upto_region 4 with (first
    | (go_at_call 14; refine (HI.out _).mono ?_; rintro e w1 ⟨rfl, hB⟩; have N1 := (N0.call hB).new2 lo hi 25; obtain ⟨i0, i1, i2, i3, i4, i5, i6⟩ := N1.c7 (b := w.heap.size) K.mem2; clear hB N0)
    | (go_at_call 16; refine (HK.out _).mono ?_; rintro e w9 ⟨rfl, rfl⟩)
    | (go_at_call 23; with_reducible refine (HS.out _).mono ?_; rintro e w9 ⟨rfl, rfl⟩))
  have m0 : (w1.heap.size, 0, lo) ∈ ((w1.heap.size, 0, lo) :: (w1.heap.size, 1, hi) :: (K.csL w.heap.size x0 ++ []) : K.CL) := by simp
  have m1 : (w1.heap.size, 1, hi) ∈ ((w1.heap.size, 0, lo) :: (w1.heap.size, 1, hi) :: (K.csL w.heap.size x0 ++ []) : K.CL) := by simp
  have m3 : (w.heap.size, 3, x0.took) ∈ ((w1.heap.size, 0, lo) :: (w1.heap.size, 1, hi) :: (K.csL w.heap.size x0 ++ []) : K.CL) := by simp [K.csL]
  have m4 : (w.heap.size, 4, x0.since) ∈ ((w1.heap.size, 0, lo) :: (w1.heap.size, 1, hi) :: (K.csL w.heap.size x0 ++ []) : K.CL) := by simp [K.csL]
  have m5 : (w.heap.size, 5, x0.tick) ∈ ((w1.heap.size, 0, lo) :: (w1.heap.size, 1, hi) :: (K.csL w.heap.size x0 ++ []) : K.CL) := by simp [K.csL]
  have m6 : (w.heap.size, 6, x0.drift) ∈ ((w1.heap.size, 0, lo) :: (w1.heap.size, 1, hi) :: (K.csL w.heap.size x0 ++ []) : K.CL) := by simp [K.csL]
  clear i0 i1 i2 i3 i4 i5 i6
  generalize ((w1.heap.size, 0, lo) :: (w1.heap.size, 1, hi) :: (K.csL w.heap.size x0 ++ []) : K.CL) = L at *
  generalize w1.alloc (.cells #[.int .i64 lo, .int .i64 hi] 25) = X at *
  generalize w1.heap.size = bt at *
  go_cut [8] (fun sp wx => ∃ g : Nat, sp = .pointer (some ⟨g, 0, none⟩) ∧ K.Kp w wx.heap.size ((g, 0, kn + s0) :: (g, 1, kn + s0 + k0) :: (g, 2, q) :: L) wx)
  case first =>
    go_region_held3 (fun W => W.cell? ⟨w.heap.size, 3, none⟩ = some (.int .i64 x0.took) ∧ W.cell? ⟨w.heap.size, 5, none⟩ = some (.int .i64 x0.tick)) (with_reducible (first | exact ⟨N1.drew.at m3, N1.drew.at m5⟩ | exact ⟨(N1.alloc _).drew.at m3, (N1.alloc _).drew.at m5⟩ | exact ⟨(N1.drew.alloc _).at m3, (N1.drew.alloc _).at m5⟩)) ((go_at_call 23; with_reducible (first | (refine (HT.out _).mono ?_; rintro e w9 ⟨rfl, hw9⟩; rw [hw9]; clear hw9 w9) | (refine (HQ.out _).mono ?_; rintro e w9 ⟨rfl, hw9⟩; rw [hw9]; clear hw9 w9))))
    all_goals (go_wp2_with fail; go_meet; (first | exact ⟨_, rfl, N1.drew.new3 _ _ _ _⟩ | exact ⟨_, rfl, (N1.new3 _ _ _ _).drew⟩))
  case rest =>
    obtain ⟨g8, rfl, N2⟩ := hcut
    have n0' : (g8, 0, kn + s0) ∈ ((g8, 0, kn + s0) :: (g8, 1, kn + s0 + k0) :: (g8, 2, q) :: L : K.CL) := by simp
    have n1' : (g8, 1, kn + s0 + k0) ∈ ((g8, 0, kn + s0) :: (g8, 1, kn + s0 + k0) :: (g8, 2, q) :: L : K.CL) := by simp
    have n2' : (g8, 2, q) ∈ ((g8, 0, kn + s0) :: (g8, 1, kn + s0 + k0) :: (g8, 2, q) :: L : K.CL) := by simp
    replace m0 := List.mem_cons_of_mem (g8, 0, kn + s0) (List.mem_cons_of_mem (g8, 1, kn + s0 + k0) (List.mem_cons_of_mem (g8, 2, q) m0))
    replace m1 := List.mem_cons_of_mem (g8, 0, kn + s0) (List.mem_cons_of_mem (g8, 1, kn + s0 + k0) (List.mem_cons_of_mem (g8, 2, q) m1))
    replace m4 := List.mem_cons_of_mem (g8, 0, kn + s0) (List.mem_cons_of_mem (g8, 1, kn + s0 + k0) (List.mem_cons_of_mem (g8, 2, q) m4))
    replace m6 := List.mem_cons_of_mem (g8, 0, kn + s0) (List.mem_cons_of_mem (g8, 1, kn + s0 + k0) (List.mem_cons_of_mem (g8, 2, q) m6))
    clear m3 m5 N1
    generalize ((g8, 0, kn + s0) :: (g8, 1, kn + s0 + k0) :: (g8, 2, q) :: L : K.CL) = L2 at *
    go_wp2_with fail
    go_region_held3 (fun W => W.cell? ⟨g8, 1, none⟩ = some (.int .i64 (kn + s0 + k0)) ∧ W.cell? ⟨w.heap.size, 4, none⟩ = some (.int .i64 x0.since)) (with_reducible exact ⟨N2.drew.at n1', N2.drew.at m4⟩) ((go_at_call 23; with_reducible refine (HN.out _).mono ?_; rintro e w9 ⟨rfl, hw9⟩; rw [hw9]; clear hw9 w9))
    have N3 := N2.drew.up
    clear N2
    generalize wc.drew = X2 at *
    have c0 := (N3.alloc (.cells #[.slice none 0 0] 59)).at n0'
    have c1 := (N3.alloc (.cells #[.slice none 0 0] 59)).at n1'
    have c2 := (N3.alloc (.cells #[.slice none 0 0] 59)).at n2'
    go_upto_region 14 with (first
      | (go_at_call 39; refine (HPI.out X2).mono ?_; rintro e v1 ⟨rfl, v', hWA, hB⟩; have N4 := N3.call hB; have HWA := Lib.hid hWA; clear hB hWA)
      | (go_at_call 41; refine (K.pk_done HWA.out (by omega)).mono ?_; rintro e v2 ⟨A2, c2', rfl, hnil, hR, hB⟩; have N5 := N4.call hB; have HR2 := Lib.hid hR; have HNIL := Lib.hid hnil; clear hB hR hnil)
      | (go_at_call 40; refine (W.new_any A2 bs.length c2' bs v2 rfl (by omega) HNIL.out HPB.out HR2.out).mono ?_; rintro e v3 ⟨b3, A3, c3, rfl, hRA, hb3, hA3, hB⟩; have N6 := N5.call hB; have HRA := Lib.hid hRA; have HB3 := Lib.hid (Nat.le_trans N5.lt hb3); clear hB hRA hb3 hA3)
      | (go_at_call 42; refine (K.pk_read HRA.out (by omega) HPR.out rfl).mono ?_; rintro e v4 ⟨A4, c4, rfl, hR4, ⟨k4, hRk, hSt⟩, hsv⟩; have N7 := N6.belowZ (K.save_below hsv N6.lt HB3.out); have HR4 := Lib.hid hR4; have HRK := Lib.hid (And.intro hRk hSt); clear hR4 hRk hSt hsv)
      | (go_at_call 43; refine (K.pk_end HRK.out.1 HRK.out.2).mono ?_; rintro e v5 ⟨rfl, hB⟩; have N8 := N7.call hB; have HR5 := Lib.hid (HR4.out.below hB); clear hB))
    obtain ⟨ad, hAd, hadB, l0⟩ := HR5.out 0 (by simp)
    obtain ⟨ad', hAd', _, l1⟩ := HR5.out 1 (by simp)
    obtain ⟨ad2, hAd2, _, l2⟩ := HR5.out 2 (by simp)
    subst hAd
    obtain rfl := Option.some.inj hAd'
    obtain rfl := Option.some.inj hAd2
    rw [show ad.add 0 = ad by simp [Addr.add]] at l0
    rw [show ad.add 1 = ⟨ad.block, ad.off + 1, none⟩ by unfold Addr.add; rw [if_neg (by decide)]] at l1
    rw [show ad.add 2 = ⟨ad.block, ad.off + 2, none⟩ by unfold Addr.add; rw [if_neg (by decide)]] at l2
    have l0' : v5.cell? ad = some (.int .i64 ((kn + s0) % 65536)) := l0
    have l1' : v5.cell? ⟨ad.block, ad.off + 1, none⟩ = some (.int .i64 ((kn + s0 + k0) % 65536)) := l1
    have l2' : v5.cell? ⟨ad.block, ad.off + 2, none⟩ = some (.int .i64 q) := l2
    have hadl := World.block_lt_of_cell? _ _ l0'
    have d0 : v5.drew.cell? ad = some (.int .i64 ((kn + s0) % 65536)) := l0'
    have d2 : v5.drew.cell? ⟨ad.block, ad.off + 2, none⟩ = some (.int .i64 q) := l2'
    clear l0 l1 l2 c0 c1 c2 N3 N4 N5 N6 N7 HWA HNIL HR2 HRA HB3 HR4 HRK HR5
    go_cut [13] (fun sp wx => ∃ g : Nat, sp = .pointer (some ⟨g, 0, none⟩) ∧ wx.heap[g]? = some (.cells #[.int .i64 (kn + s0), .int .i64 0, .int .i64 q] 32) ∧ v5.heap.size ≤ g ∧ RowKit.Below v5.heap.size v5 wx)
    case first =>
      go_region_held3 (fun W => W.cell? ad = some (.int .i64 ((kn + s0) % 65536)) ∧ W.cell? ⟨ad.block, ad.off + 2, none⟩ = some (.int .i64 q)) (with_reducible (first | exact ⟨d0, d2⟩ | exact ⟨K.cell_under _ d0, K.cell_under _ d2⟩ | exact ⟨K.cell_under_drew _ l0', K.cell_under_drew _ l2'⟩)) ((go_at_call 24; with_reducible refine (HU1.out _).mono ?_; rintro e w9 ⟨rfl, hw9⟩; rw [hw9]; clear hw9 w9))
      all_goals (go_wp2_with fail; go_meet; (first | exact ⟨_, rfl, K.heap_top_drew v5 _, Nat.le_refl _, ((Below.refl _ v5).alloc (Nat.le_refl _) _).drew⟩ | exact ⟨_, rfl, K.heap_top v5.drew _, Nat.le_refl _, (Below.refl _ v5).drew.alloc (Nat.le_refl _) _⟩))
    case rest =>
      obtain ⟨g13, rfl, hrow, hg13, hB⟩ := hcut
      have N9 := N8.call hB
      have M13 := Nat.le_trans N8.lt hg13
      obtain ⟨r0, r1, r2, r3, r4, r5⟩ := K.row_cells3 hrow
      have k1 := K.below_cell hB l1'
      have u0 : wc.drew.cell? ⟨g13, 0, none⟩ = some (.int .i64 (kn + s0)) := r0
      have u1 : wc.drew.cell? ⟨ad.block, ad.off + 1, none⟩ = some (.int .i64 ((kn + s0 + k0) % 65536)) := k1
      have s1 := K.set1_other (v := .int .i64 (kn + s0 + k0)) (by decide) r0
      have s2 := K.set1_other (v := .int .i64 (kn + s0 + k0)) (by decide) r2
      have s3 := K.set1_same (v := .int .i64 (kn + s0 + k0)) r1
      have s4 : (wc.setCell ⟨g13, 1, none⟩ (.int .i64 (kn + s0 + k0))).cell? ⟨ad.block, ad.off + 1, none⟩ = some (.int .i64 ((kn + s0 + k0) % 65536)) := by
        rw [World.cell?_setCell_far _ _ _ _ (by show g13 ≠ ad.block; omega)]; exact k1
      have s1d : (wc.setCell ⟨g13, 1, none⟩ (.int .i64 (kn + s0 + k0))).drew.cell? ⟨g13, 0, none⟩ = some (.int .i64 (kn + s0)) := s1
      have s4d : (wc.setCell ⟨g13, 1, none⟩ (.int .i64 (kn + s0 + k0))).drew.cell? ⟨ad.block, ad.off + 1, none⟩ = some (.int .i64 ((kn + s0 + k0) % 65536)) := s4
      have N10 := ((N9.setc (o := 1) (v := .int .i64 (kn + s0 + k0)) M13).add3 s1 s3 s2).drew
      clear hB l0' l1' l2' d0 d2 hadl hadB N8 hg13
      go_wp2_with fail
      go_region_held3 (fun W => W.cell? ⟨g13, 0, none⟩ = some (.int .i64 (kn + s0)) ∧ W.cell? ⟨ad.block, ad.off + 1, none⟩ = some (.int .i64 ((kn + s0 + k0) % 65536))) (with_reducible (first | exact ⟨u0, u1⟩ | exact ⟨s1d, s4d⟩)) ((go_at_call 24; with_reducible refine (HU2.out _).mono ?_; rintro e w9 ⟨rfl, hw9⟩; rw [hw9]; clear hw9 w9))
      have p0' : (g13, 0, kn + s0) ∈ ((g13, 0, kn + s0) :: (g13, 1, kn + s0 + k0) :: (g13, 2, q) :: L2 : K.CL) := by simp
      have p1' : (g13, 1, kn + s0 + k0) ∈ ((g13, 0, kn + s0) :: (g13, 1, kn + s0 + k0) :: (g13, 2, q) :: L2 : K.CL) := by simp
      have p2' : (g13, 2, q) ∈ ((g13, 0, kn + s0) :: (g13, 1, kn + s0 + k0) :: (g13, 2, q) :: L2 : K.CL) := by simp
      replace m0 := List.mem_cons_of_mem (g13, 0, kn + s0) (List.mem_cons_of_mem (g13, 1, kn + s0 + k0) (List.mem_cons_of_mem (g13, 2, q) m0))
      replace m1 := List.mem_cons_of_mem (g13, 0, kn + s0) (List.mem_cons_of_mem (g13, 1, kn + s0 + k0) (List.mem_cons_of_mem (g13, 2, q) m1))
      replace m6 := List.mem_cons_of_mem (g13, 0, kn + s0) (List.mem_cons_of_mem (g13, 1, kn + s0 + k0) (List.mem_cons_of_mem (g13, 2, q) m6))
      replace n0' := List.mem_cons_of_mem (g13, 0, kn + s0) (List.mem_cons_of_mem (g13, 1, kn + s0 + k0) (List.mem_cons_of_mem (g13, 2, q) n0'))
      replace n1' := List.mem_cons_of_mem (g13, 0, kn + s0) (List.mem_cons_of_mem (g13, 1, kn + s0 + k0) (List.mem_cons_of_mem (g13, 2, q) n1'))
      replace n2' := List.mem_cons_of_mem (g13, 0, kn + s0) (List.mem_cons_of_mem (g13, 1, kn + s0 + k0) (List.mem_cons_of_mem (g13, 2, q) n2'))
      clear m4 N9 u0 u1 s1 s2 s3 s4 s1d s4d k1 r0 r1 r2 r3 r4 r5 hrow M13
      generalize ((g13, 0, kn + s0) :: (g13, 1, kn + s0 + k0) :: (g13, 2, q) :: L2 : K.CL) = L3 at *
      generalize (wc.setCell ⟨g13, 1, none⟩ (.int .i64 (kn + s0 + k0))).drew = X9 at *
      go_upto_region 16 with fail
      go_cut [14, 15] (fun sp se wx => ∃ g : Nat, sp = .pointer (some ⟨g, 0, none⟩) ∧ se = .int .i64 re ∧ K.Kp w wx.heap.size ((g, 0, ra) :: (g, 1, rb) :: L3) wx)
      case first =>
        go_region_held3 (fun W => W.cell? ⟨bt, 0, none⟩ = some (.int .i64 lo) ∧ W.cell? ⟨bt, 1, none⟩ = some (.int .i64 hi) ∧ W.cell? ⟨g13, 0, none⟩ = some (.int .i64 (kn + s0)) ∧ W.cell? ⟨g13, 1, none⟩ = some (.int .i64 (kn + s0 + k0)) ∧ W.cell? ⟨g13, 2, none⟩ = some (.int .i64 q) ∧ W.cell? ⟨w.heap.size, 6, none⟩ = some (.int .i64 x0.drift)) (with_reducible (first | exact ⟨(((N_1.setc M_z).setc M_z)).at m0, (((N_1.setc M_z).setc M_z)).at m1, (((N_1.setc M_z).setc M_z)).at p0', (((N_1.setc M_z).setc M_z)).at p1', (((N_1.setc M_z).setc M_z)).at p2', (((N_1.setc M_z).setc M_z)).at m6⟩ | exact ⟨((N_1.alloc _)).at m0, ((N_1.alloc _)).at m1, ((N_1.alloc _)).at p0', ((N_1.alloc _)).at p1', ((N_1.alloc _)).at p2', ((N_1.alloc _)).at m6⟩ | exact ⟨(N_1).at m0, (N_1).at m1, (N_1).at p0', (N_1).at p1', (N_1).at p2', (N_1).at m6⟩ | exact ⟨((N10.alloc _).drew).at m0, ((N10.alloc _).drew).at m1, ((N10.alloc _).drew).at p0', ((N10.alloc _).drew).at p1', ((N10.alloc _).drew).at p2', ((N10.alloc _).drew).at m6⟩ | exact ⟨(N10.drew).at m0, (N10.drew).at m1, (N10.drew).at p0', (N10.drew).at p1', (N10.drew).at p2', (N10.drew).at m6⟩))
          ((first
            | (go_at_call 17; with_reducible refine (HD.out _).mono ?_; rintro e w9 ⟨rfl, hw9⟩; rw [hw9]; clear hw9 w9)
            | (go_at_call 21; with_reducible refine (HCO.out _).mono ?_; rintro e v1 ⟨rfl, hB⟩; have N_1 := (by with_reducible (first | exact N10.drew.call hB | exact (N10.alloc _).drew.call hB) : K.Kp w _ _ v1); (first | (have hz1 := (by with_reducible exact K.heap_keep hB (K.heap_top_drew X9 K.zz) : v1.heap[X9.heap.size]? = some K.zz); have M_z := N10.lt; obtain ⟨y0, y1, y2, y3⟩ := K.row_cells hz1) | skip); clear hB)))
        all_goals (go_wp2_with fail; go_meet; (first | exact ⟨_, rfl, rfl, N_1.new2 _ _ _⟩ | exact ⟨_, rfl, rfl, N_1.set2 M_z hz1 _ _⟩))
      case rest =>
        obtain ⟨g14, rfl, rfl, N11⟩ := hcut
        replace m0 := List.mem_cons_of_mem (g14, 0, ra) (List.mem_cons_of_mem (g14, 1, rb) m0)
        replace m1 := List.mem_cons_of_mem (g14, 0, ra) (List.mem_cons_of_mem (g14, 1, rb) m1)
        replace m6 := List.mem_cons_of_mem (g14, 0, ra) (List.mem_cons_of_mem (g14, 1, rb) m6)
        replace n0' := List.mem_cons_of_mem (g14, 0, ra) (List.mem_cons_of_mem (g14, 1, rb) n0')
        replace n1' := List.mem_cons_of_mem (g14, 0, ra) (List.mem_cons_of_mem (g14, 1, rb) n1')
        replace n2' := List.mem_cons_of_mem (g14, 0, ra) (List.mem_cons_of_mem (g14, 1, rb) n2')
        replace p0' := List.mem_cons_of_mem (g14, 0, ra) (List.mem_cons_of_mem (g14, 1, rb) p0')
        replace p1' := List.mem_cons_of_mem (g14, 0, ra) (List.mem_cons_of_mem (g14, 1, rb) p1')
        replace p2' := List.mem_cons_of_mem (g14, 0, ra) (List.mem_cons_of_mem (g14, 1, rb) p2')
        have t0' : (g14, 0, ra) ∈ ((g14, 0, ra) :: (g14, 1, rb) :: L3 : K.CL) := by simp
        have t1' : (g14, 1, rb) ∈ ((g14, 0, ra) :: (g14, 1, rb) :: L3 : K.CL) := by simp
        generalize ((g14, 0, ra) :: (g14, 1, rb) :: L3 : K.CL) = L4 at *
        clear N10
        go_upto_region 17 with fail
        go_cut [16, 17] (fun sp se wx => ∃ g : Nat, sp = .pointer (some ⟨g, 0, none⟩) ∧ se = .int .i64 re ∧ K.Kp w wx.heap.size ((g, 0, ra) :: (g, 1, rb) :: L4) wx)
        case first =>
          go_region_held3 (fun W => W.cell? ⟨bt, 0, none⟩ = some (.int .i64 lo) ∧ W.cell? ⟨bt, 1, none⟩ = some (.int .i64 hi) ∧ W.cell? ⟨g8, 0, none⟩ = some (.int .i64 (kn + s0)) ∧ W.cell? ⟨g8, 1, none⟩ = some (.int .i64 (kn + s0 + k0)) ∧ W.cell? ⟨g8, 2, none⟩ = some (.int .i64 q) ∧ W.cell? ⟨w.heap.size, 6, none⟩ = some (.int .i64 x0.drift)) (with_reducible (first | exact ⟨(((N_1.setc M_z).setc M_z)).at m0, (((N_1.setc M_z).setc M_z)).at m1, (((N_1.setc M_z).setc M_z)).at n0', (((N_1.setc M_z).setc M_z)).at n1', (((N_1.setc M_z).setc M_z)).at n2', (((N_1.setc M_z).setc M_z)).at m6⟩ | exact ⟨((N_1.alloc _)).at m0, ((N_1.alloc _)).at m1, ((N_1.alloc _)).at n0', ((N_1.alloc _)).at n1', ((N_1.alloc _)).at n2', ((N_1.alloc _)).at m6⟩ | exact ⟨(N_1).at m0, (N_1).at m1, (N_1).at n0', (N_1).at n1', (N_1).at n2', (N_1).at m6⟩ | exact ⟨((N11.alloc _).drew).at m0, ((N11.alloc _).drew).at m1, ((N11.alloc _).drew).at n0', ((N11.alloc _).drew).at n1', ((N11.alloc _).drew).at n2', ((N11.alloc _).drew).at m6⟩ | exact ⟨(N11.drew).at m0, (N11.drew).at m1, (N11.drew).at n0', (N11.drew).at n1', (N11.drew).at n2', (N11.drew).at m6⟩))
            ((first
              | (go_at_call 17; with_reducible refine (HD.out _).mono ?_; rintro e w9 ⟨rfl, hw9⟩; rw [hw9]; clear hw9 w9)
              | (go_at_call 21; with_reducible refine (HCO.out _).mono ?_; rintro e v1 ⟨rfl, hB⟩; have N_1 := (by with_reducible (first | exact N11.drew.call hB | exact (N11.alloc _).drew.call hB) : K.Kp w _ _ v1); (first | (have hz1 := (by with_reducible exact K.heap_keep hB (K.heap_top_drew wc K.zz) : v1.heap[wc.heap.size]? = some K.zz); have M_z := N11.lt; obtain ⟨y0, y1, y2, y3⟩ := K.row_cells hz1) | skip); clear hB)))
          all_goals (go_wp2_with fail; go_meet; (first | exact ⟨_, rfl, rfl, N_1.new2 _ _ _⟩ | exact ⟨_, rfl, rfl, N_1.set2 M_z hz1 _ _⟩))
        case rest =>
          obtain ⟨g16, rfl, rfl, N12⟩ := hcut
          have x0' := N12.at (List.mem_cons_of_mem (g16, 0, ra) (List.mem_cons_of_mem (g16, 1, rb) n0'))
          have x1' := N12.at (List.mem_cons_of_mem (g16, 0, ra) (List.mem_cons_of_mem (g16, 1, rb) n1'))
          have x2' := N12.at (List.mem_cons_of_mem (g16, 0, ra) (List.mem_cons_of_mem (g16, 1, rb) n2'))
          have x3' := N12.at (List.mem_cons_of_mem (g16, 0, ra) (List.mem_cons_of_mem (g16, 1, rb) p0'))
          have x4' := N12.at (List.mem_cons_of_mem (g16, 0, ra) (List.mem_cons_of_mem (g16, 1, rb) p1'))
          have x5' := N12.at (List.mem_cons_of_mem (g16, 0, ra) (List.mem_cons_of_mem (g16, 1, rb) p2'))
          have x6' := N12.at (List.mem_cons_of_mem (g16, 0, ra) (List.mem_cons_of_mem (g16, 1, rb) t0'))
          have x7' := N12.at (List.mem_cons_of_mem (g16, 0, ra) (List.mem_cons_of_mem (g16, 1, rb) t1'))
          have x8' := N12.at (b := g16) (o := 0) (n := ra) (by simp)
          have x9' := N12.at (b := g16) (o := 1) (n := rb) (by simp)
          go_wp2_with (go_at_call 19; refine (HL.out _).mono ?_; rintro e w5 ⟨rfl, hB⟩; have N13 := N12.call hB; clear hB)
          go_ret
          exact ⟨rfl, N13.bel⟩

set_option maxRecDepth 100000 in
theorem lifted (os : Os) (started : os.Started) (H0 : Type) (enc : TypeId × Value → H0) :
    ReturnsInHanded {} Try.checked os 13 .any (Rows.clockPacketsSpec.pre6 enc Try.prog Try.f13 Rows.clockPacketsRow.domain false) (Rows.clockPacketsSpec.post enc Try.prog Try.f13 false true false false) := by
  refine returnsInHanded_of_change_sized (C := Try.checked) Go.Proofs.Ytlmbpbhdbgadjaa.O.own started (by kernel_rfl) Try.func13
    (ChangeSpec.witness6 (enc := enc) (C := Try.checked) false ⟨#[], #[.agg #[.int .i64 0, .int .i64 0, .int .i64 0, .int .i64 0, .int .i64 0, .int .i64 0, .int .i64 0], .int .i64 0], []⟩ 8 (by kernel_rfl) (by kernel_rfl) (by kernel_rfl) (by kernel_rfl)) ?_
  intro W base args ds gs before hval0 hW hcnd hsz0 _
  have hsz : (DataW.weightsEach Try.prog (Try.f13.params.toList ++ Rows.clockPacketsSpec.plain.varTypes Try.prog) (ds ++ gs)).all (· ≤ reachBytes) = true := hsz0
  clear hsz0
  have hval : ∀ (j : Nat) t v, Try.f13.params[j]? = some t → args[j]? = some v → Value.okWide Try.prog W .any base t v := hval0
  have hW' := hW
  obtain ⟨p, q, hA0, hV, rfl, hfz, hnd⟩ := hW
  have hA : DataW.TrodAll enc Try.prog W 0 (fun _ => true) true Try.f13.params.toList args.toList ds p := hA0
  rw [Try.params13] at hA hval hsz
  obtain ⟨v0, vs0, d0, ds0, p0, q0, hargs, rfl, rfl, h0, r0⟩ := trodAll_cons hA
  obtain ⟨v1, vs1, d1, ds1, p1, q1, rfl, rfl, rfl, h1, r1⟩ := trodAll_cons r0
  obtain ⟨rfl, rfl, rfl⟩ := trodAll_nil r1
  obtain rfl : args = #[v0, v1] := by cases args; simp_all
  obtain ⟨rfl, rfl⟩ := trodVars_none hV
  have k0 := h0
  have lt0 : ∀ x ∈ p0, x.block < W.heap.size := by obtain ⟨m, hm⟩ := k0; exact DataW.trod_lt m _ _ _ hm
  obtain ⟨x0, rfl, ok0⟩ := Go.Proofs.Ytlmbpbhdbgadjaa.K.open_Cs (hval 0 23 v0 rfl rfl) h0
  obtain ⟨a1, rfl, rfl, rfl, w1⟩ := open_int Try.underlying3 (hval 1 3 v1 rfl rfl) h1
  clear hA0 hval0
  refine (walk x0 a1 W ok0 w1).mono fun e W' ⟨he, bel⟩ => ?_
  subst he
  exact ⟨_, rfl, _, _, _, [], _, [], hW', trodAll_mk1 (shut_bool Try.underlying4 _), (trodAll_cons_mk (Below.trod Go.Proofs.Ytlmbpbhdbgadjaa.O.laidOut (by kernel_rfl) (of_decide_eq_true (by kernel_rfl)) k0 bel lt0) (trodAll_cons_mk (shut_int Try.underlying3 w1) trodAll_mk0)), rfl, bel.frame _, fun h => by cases h⟩

/-- ████ THE STATEMENT ████ -/
theorem proved : Rows.ClockPacketsSaid :=
  OpenClaim.holds_of_wide 13 Try.f13 rfl rfl rfl rfl rfl rfl rfl ⟨rfl, rfl, rfl, rfl, rfl⟩ rfl rfl rfl rfl rfl (by kernel_rfl) Try.func13 (by kernel_rfl)
    (of_decide_eq_true (by kernel_rfl)) (by unfold Func.isWrapper; first | (rw [if_pos (by decide +kernel)]; kernel_rfl) | (rw [if_neg (by decide +kernel)]; exact ⟨rfl, rfl⟩))
    (fun os started H0 enc _ => lifted os started H0 enc)
end Go.Proofs.Ytlmbpbhdbgadjaa.clockPackets
