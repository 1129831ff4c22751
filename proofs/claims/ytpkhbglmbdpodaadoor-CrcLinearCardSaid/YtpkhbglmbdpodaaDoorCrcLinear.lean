/-
  For all three byte slices, CrcLinear returns true: of slices of equal length (the longer ones are cut), at most 4096 bytes, the checksum of the XOR is the XOR of the checksums.
-/
import Derived.Test.YtpkhbglmbdpodaaDoorCProg
import Derived.Deep.DeepCutAuto
import Derived.Deep.RegionHeld3
import Derived.Deep.LoopGhost
import Derived.Deep.QuietTactic
import Derived.Test.YtpkhbglmbdpodaaDoorApp
namespace Go.Proofs.YtpkhbglmbdpodaaDoor.crcLinear
open Go.ChangeShapes Go.WideShapes Go.ChangeAt Go.RowKit
open Go.ChangeMaps (open_string shut_string)
set_option linter.unusedVariables false
theorem xors_take : ∀ (n : Nat) (xs bs : List Nat), (C.xors xs bs).take n = C.xors (xs.take n) (bs.take n)
  | 0, _, _ => by simp [C.xors]
  | n + 1, [], _ => by simp [C.xors]
  | n + 1, _ :: _, [] => by simp [C.xors]
  | n + 1, x :: xs, b :: bs => by
    show (x ^^^ b) :: (C.xors xs bs).take n = (x ^^^ b) :: C.xors (xs.take n) (bs.take n)
    rw [xors_take n xs bs]
theorem xors_byt {xs bs : List Nat} (hx : ∀ b ∈ xs, b < 256) (hb : ∀ b ∈ bs, b < 256) : ∀ b ∈ C.xors xs bs, b < 256 := fun z hz => by
  obtain ⟨i, hi⟩ := List.mem_iff_getElem?.1 hz
  unfold C.xors at hi
  rw [List.getElem?_zipWith] at hi
  split at hi
  · rename_i p q hp hq
    injection hi with hi
    rw [← hi]
    exact C.lt_xor (n := 8) (hx p (List.mem_of_getElem? hp)) (hb q (List.mem_of_getElem? hq))
  · cases hi
/-- Linearity, the longer slices cut. -/
theorem lin {a b c : List Nat} (ha : ∀ x ∈ a, x < 256) (hb : ∀ x ∈ b, x < 256) (hc : ∀ x ∈ c, x < 256) {m : Nat} (hm : (C.xors (C.xors a b) c).length = m) :
    C.sum (C.xors (C.xors a b) c) = (C.sum (a.take m) ^^^ C.sum (b.take m)) ^^^ C.sum (c.take m) := by
  have hm' : m ≤ a.length ∧ m ≤ b.length ∧ m ≤ c.length := by
    unfold C.xors at hm
    rw [List.length_zipWith, List.length_zipWith] at hm
    omega
  have e : C.xors (C.xors a b) c = C.xors (C.xors (a.take m) (b.take m)) (c.take m) := by
    rw [← xors_take, ← xors_take, List.take_of_length_le (by omega)]
  rw [e]
  have hl : ∀ l : List Nat, m ≤ l.length → (l.take m).length = m := fun l h => by rw [List.length_take]; omega
  exact C.sum_three (by rw [hl a hm'.1, hl b hm'.2.1]) (by rw [hl b hm'.2.1, hl c hm'.2.2]) (fun x hx => ha x (List.mem_of_mem_take hx)) (fun x hx => hb x (List.mem_of_mem_take hx)) (fun x hx => hc x (List.mem_of_mem_take hx))
    (xors_byt (xors_byt (fun x hx => ha x (List.mem_of_mem_take hx)) (fun x hx => hb x (List.mem_of_mem_take hx))) (fun x hx => hc x (List.mem_of_mem_take hx)))

set_option maxRecDepth 100000 in
set_option maxHeartbeats 1000000 in
theorem walk (a0 : Option Addr) (n0 c0 : Nat) (z0 : List Int) (a1 : Option Addr) (n1 c1 : Nat) (z1 : List Int) (a2 : Option Addr) (n2 c2 : Nat) (z2 : List Int) (w : World) (tb : C.Tab w) (l0 : z0.length = n0) (cp0 : n0 ≤ c0 ∧ c0 ≤ maxLen) (nz0 : a0 = none → c0 = 0) (rd0 : H.RdI w w.heap.size .u8 a0 z0) (wf0 : ∀ n ∈ z0, (Lit.int .u8 n).wf = true) (r0 : z0.length * 1 ≤ 140737488351232) (l1 : z1.length = n1) (cp1 : n1 ≤ c1 ∧ c1 ≤ maxLen) (nz1 : a1 = none → c1 = 0) (rd1 : H.RdI w w.heap.size .u8 a1 z1) (wf1 : ∀ n ∈ z1, (Lit.int .u8 n).wf = true) (r1 : z1.length * 1 ≤ 140737488351232) (l2 : z2.length = n2) (cp2 : n2 ≤ c2 ∧ c2 ≤ maxLen) (nz2 : a2 = none → c2 = 0) (rd2 : H.RdI w w.heap.size .u8 a2 z2) (wf2 : ∀ n ∈ z2, (Lit.int .u8 n).wf = true) (r2 : z2.length * 1 ≤ 140737488351232) :
    Calls Tryd.prog 7 #[.slice a0 n0 c0, .slice a1 n1 c1, .slice a2 n2 c2] w fun e w' => e = .returned (.bool true) ∧ Below w.heap.size w w' := by
  have hb0 := H.u8_byt wf0
  have hb1 := H.u8_byt wf1
  have hb2 := H.u8_byt wf2
  have hcall := C.mixed_any a0 a1 a2 n0 n1 n2 c0 c1 c2 z0 z1 z2 w l0 l1 l2 (by omega) hb0 hb1 hb2 rd0 rd1 rd2
  obtain ⟨X, hX⟩ : ∃ X, C.xors (C.xors (C.nats z0) (C.nats z1)) (C.nats z2) = X := ⟨_, rfl⟩
  rw [hX] at hcall
  have hXl : X.length = min (min n0 n1) n2 := by rw [← hX]; unfold C.xors; rw [List.length_zipWith, List.length_zipWith, C.nats_len, C.nats_len, C.nats_len, l0, l1, l2]
  obtain ⟨m, hm⟩ : ∃ m, X.length = m := ⟨_, rfl⟩
  have hlin := lin (C.nats_byt hb0) (C.nats_byt hb1) (C.nats_byt hb2) (m := m) (by rw [hX, hm])
  rw [hX, C.nats_take, C.nats_take, C.nats_take] at hlin
  have hXb : ∀ b ∈ X, b < 256 := by rw [← hX]; exact xors_byt (xors_byt (C.nats_byt hb0) (C.nats_byt hb1)) (C.nats_byt hb2)
  have TB := Lib.hid tb
  have L := Lib.hid (And.intro l0 (And.intro l1 l2))
  have BB := Lib.hid (And.intro hb0 (And.intro hb1 hb2))
  have RR := Lib.hid (And.intro rd0 (And.intro rd1 rd2))
  have HXB := Lib.hid hXb
  have HM := Lib.hid hm
  have hpos := tb.pos
  have k0 : m ≤ n0 := by omega
  have k1 : m ≤ n1 := by omega
  have k2 : m ≤ n2 := by omega
  have k0' : (m : Int) ≤ (n0 : Int) := by omega
  have k1' : (m : Int) ≤ (n1 : Int) := by omega
  have k2' : (m : Int) ≤ (n2 : Int) := by omega
  have j0 : (m : Int) ≤ (c0 : Int) := by omega
  have j1 : (m : Int) ≤ (c1 : Int) := by omega
  have j2 : (m : Int) ≤ (c2 : Int) := by omega
  have jc0 : c0 ≤ 9223372036854775807 := cp0.2
  have jc1 : c1 ≤ 9223372036854775807 := cp1.2
  have jc2 : c2 ≤ 9223372036854775807 := cp2.2
  have i0 : (0 : Int) ≤ (m : Int) := by omega
  have HLIN := Lib.hid hlin
  have hil : (C.ints X).length = m := by rw [C.ints_len, hm]
  have HIL := Lib.hid hil
  clear wf0 wf1 wf2 rd0 rd1 rd2 tb hb0 hb1 hb2 l0 l1 l2 cp0 cp1 cp2 nz0 nz1 nz2 hX hXl hm hXb hlin hil
  go_enter Tryd.func7, Tryd.ntmps7
  go_wp2_with fail
  refine hcall.mono ?_
  clear hcall
  rintro r w1 ⟨v1, rfl, ho1, hB1⟩
  rw [HIL.out] at ho1
  obtain ⟨A1, q1, rfl⟩ := H.own_shape ho1
  have HO1 := Lib.hid ho1
  have HB1 := Lib.hid hB1
  clear ho1 hB1
  by_cases hbig : (4096 : Int) < (m : Int)
  · have hlv := C.plives_any w1 (TB.out.below hpos HB1.out)
    have hbl : Below w.heap.size w w1 := HB1.out
    have HBL := Lib.hid hbl
    clear hbl
    go_wp2_with fail
    refine hlv.mono ?_
    clear hlv
    rintro r w99 ⟨rfl, hb99⟩
    have HB99 := Lib.hid (HBL.out.trans (hb99.mono HBL.out.size))
    clear hb99
    go_wp2_with fail
    go_ret
    exact ⟨rfl, HB99.out⟩
  · have hm4 : m ≤ 4096 := by omega
    have hgo : ∀ (A : Option Addr) (n c : Nat) (z : List Int), z.length = n → m ≤ n → H.Byt z → H.RdI w w.heap.size .u8 A z → ∀ W1 : World, Below w1.heap.size w1 W1 → Calls Tryd.prog 14 #[.slice A m c] W1 fun r w' => r = .returned (.int .u32 (C.sum (C.nats (z.take m)))) ∧ Below w1.heap.size w1 w' := fun A n c z hl hmn hb hr W1 h =>
      (C.psum_any A m c (z.take m) W1 (TB.out.below hpos (HB1.out.trans (h.mono HB1.out.size))) (by rw [List.length_take]; omega) (by omega) (C.byt_take hb m) (((C.rd_front hr m).below (HB1.out.trans (h.mono HB1.out.size))).more (HB1.out.trans (h.mono HB1.out.size)).size)).mono fun r w' ⟨e, hb'⟩ => ⟨e, h.trans (hb'.mono h.size)⟩
    have hs0 := hgo a0 n0 c0 z0 L.out.1 k0 BB.out.1 RR.out.1
    have hs1 := hgo a1 n1 c1 z1 L.out.2.1 k1 BB.out.2.1 RR.out.2.1
    have hs2 := hgo a2 n2 c2 z2 L.out.2.2 k2 BB.out.2.2 RR.out.2.2
    have hs3 : ∀ W1 : World, Below w1.heap.size w1 W1 → Calls Tryd.prog 14 #[.slice A1 m q1] W1 fun r w' => r = .returned (.int .u32 (C.sum X)) ∧ Below w1.heap.size w1 w' := fun W1 h => by
      have h5 := C.psum_any A1 m q1 (C.ints X) W1 (TB.out.below hpos (HB1.out.trans (h.mono HB1.out.size))) HIL.out (by omega) (C.ints_byt HXB.out) (((H.own_RdI (HIL.out.symm ▸ HO1.out : w1.ownsRow w.heap.size 5 1 (.slice A1 (C.ints X).length q1) (C.ints X).length ((C.ints X).map (Value.int .u8)))).below h).more h.size)
      rw [C.nats_ints] at h5
      exact h5.mono fun r w' ⟨e, hb'⟩ => ⟨e, h.trans (hb'.mono h.size)⟩
    have hlv : ∀ W1 : World, Below w1.heap.size w1 W1 → Calls Tryd.prog 13 #[] W1 fun r w' => r = .returned (.bool true) ∧ Below w1.heap.size w1 w' := fun W1 h =>
      (C.plives_any W1 (TB.out.below hpos (HB1.out.trans (h.mono HB1.out.size)))).mono fun r w' ⟨e, hb'⟩ => ⟨e, h.trans (hb'.mono h.size)⟩
    have hlin := HLIN.out
    have lt0 := C.sum_lt (C.nats (z0.take m))
    have lt1 := C.sum_lt (C.nats (z1.take m))
    have lt2 := C.sum_lt (C.nats (z2.take m))
    generalize C.sum (C.nats (z0.take m)) = s0 at *
    generalize C.sum (C.nats (z1.take m)) = s1 at *
    generalize C.sum (C.nats (z2.take m)) = s2 at *
    generalize C.sum X = sx at *
    have e1 := C.u32_x s0 s1 lt0 lt1
    have e2 := C.u32_x (s0 ^^^ s1) s2 (C.lt_xor (n := 32) lt0 lt1) lt2
    rw [← hlin] at e2
    generalize s0 ^^^ s1 = y1 at *
    have HS0 := Lib.hid hs0
    have HS1 := Lib.hid hs1
    have HS2 := Lib.hid hs2
    have HS3 := Lib.hid hs3
    have HLV := Lib.hid hlv
    have kb : Below w1.heap.size w1 w1.drew := (Below.refl _ _).drew
    clear hgo hs0 hs1 hs2 hs3 hlv hlin lt0 lt1 lt2 HLIN
    go_wp2_with fail
    go_region_held3 (fun w' => Below w1.heap.size w1 w') (first | (with_reducible exact kb) | (with_reducible assumption) | go_keep)
      (first | (go_at_call 14; (with_reducible refine (HS0.out _ ?_).mono ?_); (assumption); rintro r w7 ⟨rfl, d0⟩) | (go_at_call 14; (with_reducible refine (HS1.out _ ?_).mono ?_); (assumption); rintro r w7 ⟨rfl, d0⟩) | (go_at_call 14; (with_reducible refine (HS2.out _ ?_).mono ?_); (assumption); rintro r w7 ⟨rfl, d0⟩) | (go_at_call 14; (with_reducible refine (HS3.out _ ?_).mono ?_); (assumption); rintro r w7 ⟨rfl, d0⟩) | (go_at_call 13; (with_reducible refine (HLV.out _ ?_).mono ?_); (assumption); rintro r w7 ⟨rfl, d0⟩))
    all_goals
      clear kb
      have hend := ‹Below w1.heap.size w1 _›
      have HEND := Lib.hid (HB1.out.trans (hend.mono HB1.out.size))
      clear hend
      go_wp2_with fail
      go_ret
      exact ⟨rfl, HEND.out⟩

theorem reads (os : Os) {H0 : Type} (enc : TypeId × Value → H0) : ∃ places, DataW.whole enc Tryd.prog ((Go.Proofs.YtpkhbglmbdpodaaDoor.C.laidWorld os).forCall (fun _ _ => 0) ⟨#[], #[.slice none 0 0, .slice none 0 0, .slice none 0 0], []⟩).memory Tryd.f7.params.toList Rows.crcLinearSpec.vars false (#[.slice none 0 0, .slice none 0 0, .slice none 0 0] : Array Value).toList 8 = some ([.nil, .nil, .nil], [], places) :=
  ⟨[], by kernel_rfl⟩
set_option maxRecDepth 100000 in
theorem lifted (os : Os) (started : os.Started) (H0 : Type) (enc : TypeId × Value → H0) (F0 : Stop.Interp) :
    ReturnsInHanded {} Tryd.checked os 7 .any ((OpenSpec.ofChange Rows.crcLinearSpec).preRow enc Tryd.prog Tryd.f7 Rows.crcLinearRow.domain false Rows.crcLinearRow.laid) (((OpenSpec.ofChange Rows.crcLinearSpec).at F0).post enc Tryd.prog Tryd.f7 false true false false) := by
  obtain ⟨places, hx⟩ := reads os enc
  refine returnsInHanded_of_row (C := Tryd.checked) (s := (OpenSpec.ofChange Rows.crcLinearSpec)) Go.Proofs.YtpkhbglmbdpodaaDoor.O.own started (by kernel_rfl) Tryd.func7
    (witness_row_at (enc := enc) (C := Tryd.checked) false (Go.Proofs.YtpkhbglmbdpodaaDoor.C.laidWorld os) #[.slice none 0 0, .slice none 0 0, .slice none 0 0] rfl (by kernel_rfl) (by kernel_rfl) (by kernel_rfl)
      (OpenSpec.preRow_of_cond 8 hx (by kernel_rfl) (fun k hk => by cases hk) (by kernel_rfl) (Go.Proofs.YtpkhbglmbdpodaaDoor.C.laid_met os _))) ?_
  intro W base args ds gs before hval0 hW _ hk0 hsz0 hL _ _
  have hsz : (DataW.weightsEach Tryd.prog (Tryd.f7.params.toList ++ (OpenSpec.ofChange Rows.crcLinearSpec).bare.plain.varTypes Tryd.prog) (ds ++ gs)).all (· ≤ reachBytes) = true := hsz0
  clear hsz0
  have hval : ∀ (j : Nat) t v, Tryd.f7.params[j]? = some t → args[j]? = some v → Value.okWide Tryd.prog W .any base t v := hval0
  have hW' := hW
  obtain ⟨p, q, hA0, hV, rfl, hfz, hnd⟩ := hW
  have hA : DataW.TrodAll enc Tryd.prog W 0 (fun _ => true) true Tryd.f7.params.toList args.toList ds p := hA0
  rw [Tryd.params7] at hA hval hsz
  obtain ⟨v0, vs0, d0, ds0, p0, q0, hargs, rfl, rfl, h0, r0⟩ := trodAll_cons hA
  obtain ⟨v1, vs1, d1, ds1, p1, q1, rfl, rfl, rfl, h1, r1⟩ := trodAll_cons r0
  obtain ⟨v2, vs2, d2, ds2, p2, q2, rfl, rfl, rfl, h2, r2⟩ := trodAll_cons r1
  obtain ⟨rfl, rfl, rfl⟩ := trodAll_nil r2
  obtain rfl : args = #[v0, v1, v2] := by cases args; simp_all
  obtain ⟨rfl, rfl⟩ := trodVars_none hV
  obtain ⟨a0, n0, c0, rfl⟩ := okWide_slice Tryd.underlying22 (hval 0 22 v0 rfl rfl)
  have k0 := h0
  have lt0 : ∀ x ∈ p0, x.block < W.heap.size := by obtain ⟨m, hm⟩ := k0; exact DataW.trod_lt m _ _ _ hm
  obtain ⟨z0, l0, cp0, cq0, nz0, rd0, wf0, bj0⟩ := Go.Proofs.YtpkhbglmbdpodaaDoor.O.open_isT Tryd.underlying22 Tryd.underlying5 (by kernel_rfl) h0
  have el0 := Go.Proofs.YtpkhbglmbdpodaaDoor.O.open_el Tryd.underlying22 Tryd.underlying5 (by kernel_rfl) k0
  obtain ⟨a1, n1, c1, rfl⟩ := okWide_slice Tryd.underlying22 (hval 1 22 v1 rfl rfl)
  have k1 := h1
  have lt1 : ∀ x ∈ p1, x.block < W.heap.size := by obtain ⟨m, hm⟩ := k1; exact DataW.trod_lt m _ _ _ hm
  obtain ⟨z1, l1, cp1, cq1, nz1, rd1, wf1, bj1⟩ := Go.Proofs.YtpkhbglmbdpodaaDoor.O.open_isT Tryd.underlying22 Tryd.underlying5 (by kernel_rfl) h1
  have el1 := Go.Proofs.YtpkhbglmbdpodaaDoor.O.open_el Tryd.underlying22 Tryd.underlying5 (by kernel_rfl) k1
  obtain ⟨a2, n2, c2, rfl⟩ := okWide_slice Tryd.underlying22 (hval 2 22 v2 rfl rfl)
  have k2 := h2
  have lt2 : ∀ x ∈ p2, x.block < W.heap.size := by obtain ⟨m, hm⟩ := k2; exact DataW.trod_lt m _ _ _ hm
  obtain ⟨z2, l2, cp2, cq2, nz2, rd2, wf2, bj2⟩ := Go.Proofs.YtpkhbglmbdpodaaDoor.O.open_isT Tryd.underlying22 Tryd.underlying5 (by kernel_rfl) h2
  have el2 := Go.Proofs.YtpkhbglmbdpodaaDoor.O.open_el Tryd.underlying22 Tryd.underlying5 (by kernel_rfl) k2
  clear hA0 hval0
  have r0 : z0.length * 1 ≤ 140737488351232 := by
    rcases el0 with h | ⟨es, sp, h, hle⟩
    · omega
    · have hr := sized_slice hsz (j := 0) (t := 22) (e := 5) (elems := es) (spare := sp) rfl (by simp [h]) Tryd.underlying22
      rw [show Tryd.prog.bytesOf 5 = 1 from by kernel_rfl] at hr
      simp only [reachBytes] at hr
      omega
  have r1 : z1.length * 1 ≤ 140737488351232 := by
    rcases el1 with h | ⟨es, sp, h, hle⟩
    · omega
    · have hr := sized_slice hsz (j := 1) (t := 22) (e := 5) (elems := es) (spare := sp) rfl (by simp [h]) Tryd.underlying22
      rw [show Tryd.prog.bytesOf 5 = 1 from by kernel_rfl] at hr
      simp only [reachBytes] at hr
      omega
  have r2 : z2.length * 1 ≤ 140737488351232 := by
    rcases el2 with h | ⟨es, sp, h, hle⟩
    · omega
    · have hr := sized_slice hsz (j := 2) (t := 22) (e := 5) (elems := es) (spare := sp) rfl (by simp [h]) Tryd.underlying22
      rw [show Tryd.prog.bytesOf 5 = 1 from by kernel_rfl] at hr
      simp only [reachBytes] at hr
      omega
  have tb := Go.Proofs.YtpkhbglmbdpodaaDoor.C.tab_of_laid hL
  refine (walk a0 n0 c0 z0 a1 n1 c1 z1 a2 n2 c2 z2 W tb l0 ⟨cp0, cq0⟩ nz0 rd0 wf0 r0 l1 ⟨cp1, cq1⟩ nz1 rd1 wf1 r1 l2 ⟨cp2, cq2⟩ nz2 rd2 wf2 r2).mono fun e W' ⟨he, bel⟩ => ?_
  subst he
  exact ⟨_, rfl, _, _, _, [], _, [], hW', trodAll_mk1 (shut_bool Tryd.underlying4 _), (trodAll_cons_mk (Below.trod Go.Proofs.YtpkhbglmbdpodaaDoor.O.laidOut (by kernel_rfl) (of_decide_eq_true (by kernel_rfl)) k0 bel lt0) (trodAll_cons_mk (Below.trod Go.Proofs.YtpkhbglmbdpodaaDoor.O.laidOut (by kernel_rfl) (of_decide_eq_true (by kernel_rfl)) k1 bel lt1) (trodAll_cons_mk (Below.trod Go.Proofs.YtpkhbglmbdpodaaDoor.O.laidOut (by kernel_rfl) (of_decide_eq_true (by kernel_rfl)) k2 bel lt2) trodAll_mk0))), rfl, bel.frame _, fun h => by cases h⟩

theorem said : Rows.CrcLinearSaid :=
  OpenClaim.holds_of_cond 7 Tryd.f7 rfl rfl rfl rfl rfl rfl rfl ⟨rfl, rfl, rfl, rfl, rfl⟩ rfl rfl rfl rfl rfl (by kernel_rfl) Tryd.func7 (by kernel_rfl)
    (of_decide_eq_true (by kernel_rfl)) (by unfold Func.isWrapper; first | (rw [if_pos (by decide +kernel)]; kernel_rfl) | (rw [if_neg (by decide +kernel)]; exact ⟨rfl, rfl⟩))
    (fun os started H0 enc _ F0 => by rw [OpenClaim.pre_eq_preRow]; exact lifted os started H0 enc F0)
theorem plain (f : FuncId) (fn : Func) (hf : Tryd.pinned.checked.prog.funcNamed "perigee/perigeelaw03.CrcLinear" = some f) (hfn : Tryd.pinned.checked.prog.funcs[f]? = some fn) :
    false = Tryd.pinned.checked.prog.looks [] ∧ ∀ (j : Nat) t, fn.params[j]? = some t → Tryd.pinned.checked.prog.wantsStandIn t = false := by
  obtain rfl : f = 7 := Option.some.inj ((show Tryd.prog.funcNamed "perigee/perigeelaw03.CrcLinear" = some 7 by kernel_rfl).symm.trans hf) |>.symm
  obtain rfl : fn = Tryd.f7 := (Option.some.inj (Tryd.func7.symm.trans hfn)).symm
  refine ⟨by kernel_rfl, fun j t ht => ?_⟩
  rw [Tryd.params7] at ht
  have hm : t ∈ [22, 22, 22] := by simpa using Array.mem_of_getElem? ht
  have hall : ([22, 22, 22].all fun u => !Tryd.prog.wantsStandIn u) = true := by kernel_rfl
  exact (show Tryd.prog.wantsStandIn t = false by simpa using List.all_eq_true.1 hall t hm)
/-- ████ THE CARD ████ -/
theorem proved : Rows.CrcLinearCardSaid :=
  Claim7.holds_tied_plain_at .later [] _ _ _ _ said (fun _ h => by cases h) (by kernel_rfl) (fun _ h => by cases h) crcLinear_row_tie rfl ⟨rfl, rfl⟩ (by kernel_rfl) rfl plain (by kernel_rfl)
end Go.Proofs.YtpkhbglmbdpodaaDoor.crcLinear
