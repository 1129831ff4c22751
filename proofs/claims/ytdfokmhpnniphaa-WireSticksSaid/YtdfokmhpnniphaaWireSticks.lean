/-
  For every byte slice, error code and list of items, WireSticks returns true: after Fail every read returns zero values, a second Fail is ignored, and the first error remains; OK is not recorded as an error.
  No condition but that the arguments lie in memory as the statement says.
-/
import Derived.Test.YtdfokmhpnniphaaWLives
import Derived.Test.YtdfokmhpnniphaaWRead
import Derived.Deep.RegionHeld3
namespace Go.Proofs.Ytdfokmhpnniphaa.wireSticks
open Go.ChangeShapes Go.WideShapes Go.ChangeAt Go.RowKit
open Go.ChangeMaps (open_string shut_string)
set_option linter.unusedVariables false
open W H in
theorem read_err {w : World} {b : Nat} {A : Option Addr} {n c : Nat} {bs : List Int} {k : Nat} {e : Int} (x : W.Itm) (m : Int) (hm : -9223372036854775808 ≤ m ∧ m ≤ 9223372036854775807) (hx : x.Ok) (he : e ≠ 0) (h : W.RAt w b A n c bs k e) :
    Calls Try.prog 30 #[.pointer (some ⟨b, 0, none⟩), x.agg, .int .i64 m] w fun r w' => ∃ y : W.Itm, r = .returned y.agg ∧ y.u = 0 ∧ y.i = 0 ∧ y.bs = [] ∧ y.ls = [] ∧ W.Lies w' y ∧ (∃ k', W.RAt w' b A n c bs k' e) ∧ W.Save (· = b) w w' := by
  refine (W.read_any (s := ([], e)) x m hm hx (fun h => absurd h he) h ⟨rfl, fun h => absurd h he⟩).mono fun r w' ⟨y, hr, hok, hk, hv, hm0, hu, hi, hb, hl, hrb, hrl, hab, hal, k', e', hR, hS, hV⟩ => ?_
  have hz : W.rV ([], e) m x.val = (([], e), W.zero x.val) := Prod.ext (W.rV_err he m _) (W.rV_zero he m _)
  rw [hz] at hv hS
  obtain rfl : e' = e := hS.1.symm
  have key : y.u = 0 ∧ y.i = 0 ∧ y.bs = [] ∧ y.ls = [] := by
    unfold W.Itm.val at hv
    rw [hk] at hv
    by_cases h0 : x.k = 0
    · rw [if_pos h0, if_pos h0] at hv
      injection hv with hv
      exact ⟨hv, hi (by omega), (hb (by omega)).1, (hl (.inl h0)).1⟩
    · rw [if_neg h0, if_neg h0] at hv
      by_cases h1 : x.k = 1
      · rw [if_pos h1, if_pos h1] at hv
        injection hv with hv
        exact ⟨hu h0, hv, (hb (by omega)).1, (hl (.inr (.inl h1))).1⟩
      · rw [if_neg h1, if_neg h1] at hv
        by_cases h2 : x.k = 2
        · rw [if_pos h2, if_pos h2] at hv
          injection hv with hv
          exact ⟨hu h0, hi h1, hv, (hl (.inr (.inr h2))).1⟩
        · rw [if_neg h2, if_neg h2] at hv
          injection hv with hv
          exact ⟨hu h0, hi h1, (hb h2).1, hv⟩
  obtain ⟨q1, q2, q3, q4⟩ := key
  have l1 := hok.bl
  have l2 := hok.ll
  rw [q3] at l1
  rw [q4] at l2
  simp only [List.length_nil] at l1 l2
  exact ⟨y, hr, q1, q2, q3, q4, ⟨hok.bl, hok.ll, by omega, by omega, hrb, hrl⟩, ⟨k', hR⟩, hV⟩


set_option maxRecDepth 100000 in
set_option maxHeartbeats 1000000 in
theorem walk (a0 : Option Addr) (n0 c0 : Nat) (z0 : List Int) (a1 : Int) (a2 : Option Addr) (n2 c2 : Nat) (z2 : List W.Itm) (w : World) (l0 : z0.length = n0) (cp0 : n0 ≤ c0 ∧ c0 ≤ maxLen) (nz0 : a0 = none → c0 = 0) (rd0 : H.RdI w w.heap.size .u8 a0 z0) (wf0 : ∀ n ∈ z0, (Lit.int .u8 n).wf = true) (bk0 : z0.length * 1 ≤ 140737488351232) (w1 : (Lit.int .i64 a1).wf = true) (l2 : z2.length = n2) (cp2 : n2 ≤ c2 ∧ c2 ≤ maxLen) (nz2 : a2 = none → c2 = 0) (rd2 : W.RdIt w w.heap.size a2 z2) (wf2 : ∀ x ∈ z2, x.Ok) :
    Calls Try.prog 11 #[.slice a0 n0 c0, .int .i64 a1, .slice a2 n2 c2] w fun e w' => e = .returned (.bool true) ∧ Below w.heap.size w w' := by
  have hm1 := H.i64_range w1
  have hnew := W.new_any a0 n0 c0 z0 w l0 (by rw [← l0]; omega) nz0 (H.u8_byt wf0) rd0
  have HR := Lib.hid rd2
  have HL := Lib.hid l2
  have HK := Lib.hid wf2
  have hcm : c2 ≤ 9223372036854775807 := cp2.2
  have hcn := cp2.1
  clear rd0 rd2 l0 l2 wf0 wf2 nz0 nz2 bk0 cp0 cp2 w1
  go_enter Try.func11, Try.ntmps11
  go_wp2_with fail
  refine hnew.mono ?_
  clear hnew
  rintro r w1 ⟨b, A, c, rfl, hr1, hb1, hA1, hB1⟩
  have hf := W.fail_rd 0 hr1
  rw [if_pos rfl] at hf
  clear hr1 hA1
  go_wp2_with fail
  refine hf.mono ?_
  clear hf
  rintro r w2 ⟨rfl, hr2, hv2⟩
  have he := W.err_any hr2
  have hf := W.fail_rd a1 hr2
  rw [if_pos rfl] at hf
  have HB2 := Lib.hid (hB1.trans (hv2.below hB1.size (fun k hk => by omega)))
  clear hr2 hv2 hB1
  go_wp2_with fail
  refine he.mono ?_
  clear he
  rintro r w3 ⟨rfl, rfl⟩
  go_wp2_with fail
  refine hf.mono ?_
  clear hf
  rintro r w3 ⟨rfl, hr3, hv3⟩
  have HB3 := Lib.hid (HB2.out.trans (hv3.below HB2.out.size (fun k hk => by omega)))
  clear hv3 HB2
  by_cases hz : a1 = 0
  · have hq : (a1 == 0) = true := by simpa using hz
    have hlv := W.lives_any w3
    clear hz hr3
    go_wp2_with fail
    refine hlv.mono ?_
    clear hlv
    rintro r w4 ⟨rfl, hb4⟩
    have HB4 := Lib.hid (HB3.out.trans (hb4.mono HB3.out.size))
    clear hb4
    go_wp2_with fail
    go_ret
    exact ⟨rfl, HB4.out⟩
  · have hq : (a1 == 0) = false := by simpa using hz
    have hf := fun z => (if_neg hz : (if a1 = 0 then z else a1) = a1) ▸ W.fail_rd z hr3
    have HZ := Lib.hid hz
    clear hr3 hz
    go_wp2_with fail
    refine (hf _).mono ?_
    clear hf
    rintro r w4 ⟨rfl, hr4, hv4⟩
    have HB4 := Lib.hid (HB3.out.trans (hv4.below HB3.out.size (fun k hk => by omega)))
    have HR4 := Lib.hid hr4
    clear hr4 hv4 HB3
    go_wp2_with fail
    go_loopw [9] (fun i wr => ∃ k k' : Nat, k ≤ n2 ∧ i = .int .i64 k ∧ W.RAt wr b A n0 c z0 k' a1 ∧ Below w.heap.size w wr) (fun i _ => n2 - (intOf i).toNat)
    case atStart => exact ⟨0, 0, Nat.zero_le _, rfl, HR4.out, HB4.out⟩
    case round =>
      obtain ⟨k, k', hk, rfl, hr, hB⟩ := hrel
      have HRr := Lib.hid hr
      have HBr := Lib.hid hB
      clear hr hB
      by_cases hlt : k < n2
      · obtain ⟨x, hx⟩ : ∃ x, z2[k]? = some x := ⟨_, List.getElem?_eq_getElem (by rw [HL.out]; exact hlt)⟩
        obtain ⟨ad, rfl, ha, hri⟩ := (HR.out.below HBr.out) k x hx
        have hok := HK.out x (List.mem_of_getElem? hx)
        have hcells : ∀ w' : World, Below w.heap.size w w' → w'.cell? (ad.add (k * 6)) = some (.int .i64 x.k) ∧ w'.cell? ⟨(ad.add (k * 6)).block, (ad.add (k * 6)).off + 1, none⟩ = some (.int .u64 x.u) ∧ w'.cell? ⟨(ad.add (k * 6)).block, (ad.add (k * 6)).off + 2, none⟩ = some (.int .i64 x.i) ∧ w'.cell? ⟨(ad.add (k * 6)).block, (ad.add (k * 6)).off + 3, none⟩ = some (.slice x.bA x.bn x.bc) ∧ w'.cell? ⟨(ad.add (k * 6)).block, (ad.add (k * 6)).off + 4, none⟩ = some (.slice x.lA x.ln x.lc) ∧ w'.cell? ⟨(ad.add (k * 6)).block, (ad.add (k * 6)).off + 5, none⟩ = some (.int .i64 x.m) ∧ Below w.heap.size w w' := fun w' hb => by
          obtain ⟨ad', e, _, hri⟩ := (HR.out.below hb) k x hx
          cases e
          obtain ⟨hc0, hc1, hc2, hc3, hc4, hc5, _, _⟩ := hri
          rw [W.add_pos _ _ (by decide)] at hc1 hc2 hc3 hc4 hc5
          exact ⟨hc0, hc1, hc2, hc3, hc4, hc5, hb⟩
        have hread : ∀ W1 : World, W.RAt W1 b A n0 c z0 k' a1 → Below w.heap.size w W1 → Calls Try.prog 30 #[.pointer (some ⟨b, 0, none⟩), x.agg, .int .i64 x.m] W1 fun r w' => ∃ y : W.Itm, r = .returned y.agg ∧ (y.u = 0 ∧ y.i = 0 ∧ y.bs = [] ∧ y.ls = [] ∧ W.Lies w' y) ∧ (∃ k', W.RAt w' b A n0 c z0 k' a1) ∧ w'.cell? (ad.add (k * 6)) = some (.int .i64 x.k) ∧ w'.cell? ⟨(ad.add (k * 6)).block, (ad.add (k * 6)).off + 1, none⟩ = some (.int .u64 x.u) ∧ w'.cell? ⟨(ad.add (k * 6)).block, (ad.add (k * 6)).off + 2, none⟩ = some (.int .i64 x.i) ∧ w'.cell? ⟨(ad.add (k * 6)).block, (ad.add (k * 6)).off + 3, none⟩ = some (.slice x.bA x.bn x.bc) ∧ w'.cell? ⟨(ad.add (k * 6)).block, (ad.add (k * 6)).off + 4, none⟩ = some (.slice x.lA x.ln x.lc) ∧ w'.cell? ⟨(ad.add (k * 6)).block, (ad.add (k * 6)).off + 5, none⟩ = some (.int .i64 x.m) ∧ Below w.heap.size w w' := fun W1 h1 hb =>
          (read_err x x.m hok.m hok HZ.out h1).mono fun r w' ⟨y, hr, q1, q2, q3, q4, q5, q6, q7⟩ => ⟨y, hr, ⟨q1, q2, q3, q4, q5⟩, q6, hcells w' (hb.trans (q7.below hb.size (fun k hk => by omega)))⟩
        have hsame : ∀ (y : W.Itm) (W1 : World), (y.u = 0 ∧ y.i = 0 ∧ y.bs = [] ∧ y.ls = [] ∧ W.Lies W1 y) → Below w.heap.size w W1 → Calls Try.prog 31 #[y.agg, .agg #[.int .i64 0, .int .u64 0, .int .i64 0, .slice none 0 0, .slice none 0 0, .int .i64 0]] W1 fun r w' => r = .returned (.bool true) ∧ (∀ k', W.RAt W1 b A n0 c z0 k' a1 → W.RAt w' b A n0 c z0 k' a1) ∧ w'.cell? (ad.add (k * 6)) = some (.int .i64 x.k) ∧ w'.cell? ⟨(ad.add (k * 6)).block, (ad.add (k * 6)).off + 1, none⟩ = some (.int .u64 x.u) ∧ w'.cell? ⟨(ad.add (k * 6)).block, (ad.add (k * 6)).off + 2, none⟩ = some (.int .i64 x.i) ∧ w'.cell? ⟨(ad.add (k * 6)).block, (ad.add (k * 6)).off + 3, none⟩ = some (.slice x.bA x.bn x.bc) ∧ w'.cell? ⟨(ad.add (k * 6)).block, (ad.add (k * 6)).off + 4, none⟩ = some (.slice x.lA x.ln x.lc) ∧ w'.cell? ⟨(ad.add (k * 6)).block, (ad.add (k * 6)).off + 5, none⟩ = some (.int .i64 x.m) ∧ Below w.heap.size w w' := fun y W1 ⟨q1, q2, q3, q4, q5⟩ hb =>
          (W.same_any y ⟨0, 0, 0, none, 0, 0, [], none, 0, 0, [], 0⟩ W1 q5 ⟨rfl, rfl, Nat.zero_le _, Nat.zero_le _, H.RdI.nil, H.RdI.nil⟩).mono fun r w' ⟨hr, hB⟩ => ⟨by rw [hr, decide_eq_true ⟨q1, q2, q3, q4⟩], fun k' h => h.same hB, hcells w' (hb.trans (hB.mono hb.size))⟩
        have hrd : W.RAt wr.drew b A n0 c z0 k' a1 := HRr.out.same (Below.refl _ _).drew
        obtain ⟨kk0, kk1, kk2, kk3, kk4, kk5, kk6⟩ := hcells wr.drew HBr.out.drew
        obtain ⟨hc0, hc1, hc2, hc3, hc4, hc5, _⟩ := hcells wr HBr.out
        have hk0 : (0 : Int) ≤ (k : Int) := by omega
        have hk1 : (k : Int) < (n2 : Int) := by omega
        unfold W.Itm.agg at hread hsame
        have HRD := Lib.hid hread
        have HSM := Lib.hid hsame
        have HRd := Lib.hid hrd
        clear hread hsame hx hok hcells hri hrd
        go_wp2_with fail
        go_region_held3 (fun w' => w'.cell? (ad.add (k * 6)) = some (.int .i64 x.k) ∧ w'.cell? ⟨(ad.add (k * 6)).block, (ad.add (k * 6)).off + 1, none⟩ = some (.int .u64 x.u) ∧ w'.cell? ⟨(ad.add (k * 6)).block, (ad.add (k * 6)).off + 2, none⟩ = some (.int .i64 x.i) ∧ w'.cell? ⟨(ad.add (k * 6)).block, (ad.add (k * 6)).off + 3, none⟩ = some (.slice x.bA x.bn x.bc) ∧ w'.cell? ⟨(ad.add (k * 6)).block, (ad.add (k * 6)).off + 4, none⟩ = some (.slice x.lA x.ln x.lc) ∧ w'.cell? ⟨(ad.add (k * 6)).block, (ad.add (k * 6)).off + 5, none⟩ = some (.int .i64 x.m) ∧ Below w.heap.size w w') (first | exact ⟨kk0, kk1, kk2, kk3, kk4, kk5, kk6⟩ | exact ⟨by assumption, by assumption, by assumption, by assumption, by assumption, by assumption, by assumption⟩ | go_keep)
          (first | (go_at_call 30; refine (HRD.out _ HRd.out ?_).mono ?_; (assumption); rintro e w5 ⟨y, rfl, hY, hR5, d0, d1, d2, d3, d4, d5, hb5⟩; have HY := Lib.hid hY; have HR5 := Lib.hid hR5; clear hY hR5) | (go_at_call 31; refine (HSM.out _ _ HY.out ?_).mono ?_; (assumption); rintro e w6 ⟨rfl, hR6, d0, d1, d2, d3, d4, d5, hb6⟩; have HR6 := Lib.hid hR6; clear hR6))
        all_goals
          clear kk0 kk1 kk2 kk3 kk4 kk5 kk6 hc0 hc1 hc2 hc3 hc4 hc5
          go_wp2_with fail
          go_roundw
          case rel =>
            obtain ⟨k5, h5⟩ := HR5.out
            exact ⟨k + 1, k5, by omega, by go_num, HR6.out k5 h5, hb6⟩
          case measure => simp [intOf]; omega
      · have he := W.err_any HRr.out
        have hen := W.end_rd (s := ([], a1)) HRr.out ⟨rfl, fun h => absurd h HZ.out⟩
        rw [show W.endOf ([], a1) = a1 from by unfold W.endOf; rw [if_neg (fun h => HZ.out h.1)]] at hen
        go_wp2_with fail
        refine he.mono ?_
        clear he
        rintro r w5 ⟨rfl, rfl⟩
        go_wp2_with fail
        refine hen.mono ?_
        clear hen
        rintro r w6 ⟨rfl, m, rfl⟩
        have hlv := W.lives_any (Go.World.drewN w5 m)
        go_wp2_with fail
        refine hlv.mono ?_
        clear hlv
        rintro r w7 ⟨rfl, hb7⟩
        have HB7 := Lib.hid ((below_drewN HBr.out m).trans (hb7.mono HBr.out.size))
        clear hb7
        go_wp2_with fail
        go_ret
        exact ⟨rfl, HB7.out⟩

set_option maxRecDepth 100000 in
theorem lifted (os : Os) (started : os.Started) (H0 : Type) (enc : TypeId × Value → H0) :
    ReturnsInHanded {} Try.checked os 11 .any (Rows.wireSticksSpec.pre6 enc Try.prog Try.f11 Rows.wireSticksRow.domain false) (Rows.wireSticksSpec.post enc Try.prog Try.f11 false true false false) := by
  refine returnsInHanded_of_change_sized (C := Try.checked) Go.Proofs.Ytdfokmhpnniphaa.W.own started (by kernel_rfl) Try.func11
    (ChangeSpec.witness6 (enc := enc) (C := Try.checked) false ⟨#[], #[.slice none 0 0, .int .i64 0, .slice none 0 0], []⟩ 8 (by kernel_rfl) (by kernel_rfl) (by kernel_rfl) (by kernel_rfl)) ?_
  intro W base args ds gs before hval0 hW hcnd hsz0 _
  have hsz : (DataW.weightsEach Try.prog (Try.f11.params.toList ++ Rows.wireSticksSpec.plain.varTypes Try.prog) (ds ++ gs)).all (· ≤ reachBytes) = true := hsz0
  clear hsz0
  have hval : ∀ (j : Nat) t v, Try.f11.params[j]? = some t → args[j]? = some v → Value.okWide Try.prog W .any base t v := hval0
  have hW' := hW
  obtain ⟨p, q, hA0, hV, rfl, hfz, hnd⟩ := hW
  have hA : DataW.TrodAll enc Try.prog W 0 (fun _ => true) true Try.f11.params.toList args.toList ds p := hA0
  rw [Try.params11] at hA hval hsz
  obtain ⟨v0, vs0, d0, ds0, p0, q0, hargs, rfl, rfl, h0, r0⟩ := trodAll_cons hA
  obtain ⟨v1, vs1, d1, ds1, p1, q1, rfl, rfl, rfl, h1, r1⟩ := trodAll_cons r0
  obtain ⟨v2, vs2, d2, ds2, p2, q2, rfl, rfl, rfl, h2, r2⟩ := trodAll_cons r1
  obtain ⟨rfl, rfl, rfl⟩ := trodAll_nil r2
  obtain rfl : args = #[v0, v1, v2] := by cases args; simp_all
  obtain ⟨rfl, rfl⟩ := trodVars_none hV
  obtain ⟨a0, n0, c0, rfl⟩ := okWide_slice Try.underlying24 (hval 0 24 v0 rfl rfl)
  have k0 := h0
  have lt0 : ∀ x ∈ p0, x.block < W.heap.size := by obtain ⟨m, hm⟩ := k0; exact DataW.trod_lt m _ _ _ hm
  obtain ⟨z0, l0, cp0, cq0, nz0, rd0, wf0, bj0⟩ := Go.Proofs.Ytdfokmhpnniphaa.W.open_isT Try.underlying24 Try.underlying5 (by kernel_rfl) h0
  have el0 := Go.Proofs.Ytdfokmhpnniphaa.W.open_el Try.underlying24 Try.underlying5 (by kernel_rfl) k0
  obtain ⟨a1, rfl, rfl, rfl, w1⟩ := open_int Try.underlying3 (hval 1 3 v1 rfl rfl) h1
  obtain ⟨a2, n2, c2, rfl⟩ := okWide_slice Try.underlying22 (hval 2 22 v2 rfl rfl)
  have k2 := h2
  have lt2 : ∀ x ∈ p2, x.block < W.heap.size := by obtain ⟨m, hm⟩ := k2; exact DataW.trod_lt m _ _ _ hm
  obtain ⟨z2, l2, cp2, cq2, nz2, rd2, wf2, bj2⟩ := Go.Proofs.Ytdfokmhpnniphaa.W.open_its h2
  clear hA0 hval0
  have bk0 : z0.length * 1 ≤ 140737488351232 := by
    rcases el0 with h | ⟨es, sp, h, hle⟩
    · omega
    · have hr := sized_slice hsz (j := 0) (t := 24) (e := 5) (elems := es) (spare := sp) rfl (by simp [h]) Try.underlying24
      rw [Go.Proofs.Ytdfokmhpnniphaa.W.bytesU8] at hr
      simp only [reachBytes] at hr
      omega

  refine (walk a0 n0 c0 z0 a1 a2 n2 c2 z2 W l0 ⟨cp0, cq0⟩ nz0 rd0 wf0 bk0 w1 l2 ⟨cp2, cq2⟩ nz2 rd2 wf2).mono fun e W' ⟨he, bel⟩ => ?_
  subst he
  exact ⟨_, rfl, _, _, _, [], _, [], hW', trodAll_mk1 (shut_bool Try.underlying4 _), (trodAll_cons_mk (Below.trod Go.Proofs.Ytdfokmhpnniphaa.W.laidOut (by kernel_rfl) (of_decide_eq_true (by kernel_rfl)) k0 bel lt0) (trodAll_cons_mk (shut_int Try.underlying3 w1) (trodAll_cons_mk (Below.trod Go.Proofs.Ytdfokmhpnniphaa.W.laidOut (by kernel_rfl) (of_decide_eq_true (by kernel_rfl)) k2 bel lt2) trodAll_mk0))), rfl, bel.frame _, fun h => by cases h⟩

/-- ████ THE STATEMENT ████ -/
theorem proved : Rows.WireSticksSaid :=
  OpenClaim.holds_of_wide 11 Try.f11 rfl rfl rfl rfl rfl rfl rfl ⟨rfl, rfl, rfl, rfl, rfl⟩ rfl rfl rfl rfl rfl (by kernel_rfl) Try.func11 (by kernel_rfl)
    (of_decide_eq_true (by kernel_rfl)) (by unfold Func.isWrapper; first | (rw [if_pos (by decide +kernel)]; kernel_rfl) | (rw [if_neg (by decide +kernel)]; exact ⟨rfl, rfl⟩))
    (fun os started H0 enc _ => lifted os started H0 enc)
end Go.Proofs.Ytdfokmhpnniphaa.wireSticks
