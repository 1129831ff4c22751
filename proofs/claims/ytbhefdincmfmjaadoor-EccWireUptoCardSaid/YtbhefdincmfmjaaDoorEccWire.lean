/-
  For all lists of words and of numbers of bits that hold together at most 1048576 values, EccWire returns true: the code words, each with one bit inverted or none, that are written and read back with package wire decode to the words.
-/
import Derived.Test.YtbhefdincmfmjaaDoorELaw
import Derived.Test.YtbhefdincmfmjaaDoorAround
import Derived.Deep.DeepCutAuto
import Derived.Deep.RegionHeld3
import Derived.Deep.LoopGhost
import Derived.Deep.QuietTactic
import Derived.Test.YtbhefdincmfmjaaDoorEWire
namespace Go.Proofs.YtbhefdincmfmjaaDoor.eccWire
open Go.ChangeShapes Go.WideShapes Go.ChangeAt Go.RowKit
open Go.ChangeMaps (open_string shut_string)
set_option linter.unusedVariables false

set_option maxRecDepth 100000 in
set_option maxHeartbeats 1000000 in
theorem walk (a0 : Option Addr) (n0 c0 : Nat) (z0 : List Int) (a1 : Option Addr) (n1 c1 : Nat) (z1 : List Int) (w : World) (tb : E.Tab w) (l0 : z0.length = n0) (cp0 : n0 ≤ c0 ∧ c0 ≤ maxLen) (nz0 : a0 = none → c0 = 0) (rd0 : H.RdI w w.heap.size .u32 a0 z0) (wf0 : ∀ n ∈ z0, (Lit.int .u32 n).wf = true) (r0 : z0.length ≤ 1048575) (l1 : z1.length = n1) (cp1 : n1 ≤ c1 ∧ c1 ≤ maxLen) (nz1 : a1 = none → c1 = 0) (rd1 : H.RdI w w.heap.size .i64 a1 z1) (wf1 : ∀ n ∈ z1, (Lit.int .i64 n).wf = true) (r1 : z1.length ≤ 1048575) :
    Calls Tryd.prog 13 #[.slice a0 n0 c0, .slice a1 n1 c1] w fun e w' => e = .returned (.bool true) ∧ Below w.heap.size w w' := by
  have hz : ∀ k, k < n0 → z0[k]?.getD 0 = ((E.wk z0 k : Nat) : Int) ∧ E.wk z0 k < 4294967296 := fun k hk => by
    obtain ⟨x, hx⟩ : ∃ x, z0[k]? = some x := ⟨_, List.getElem?_eq_getElem (by omega)⟩
    obtain ⟨m, hm, hl⟩ := E.u32_nat_of (wf0 x (List.mem_of_getElem? hx))
    unfold E.wk
    rw [hx, Option.getD_some, hm]
    exact ⟨by omega, by omega⟩
  have hy : ∀ k, k < n1 → -9223372036854775808 ≤ z1[k]?.getD 0 ∧ z1[k]?.getD 0 ≤ 9223372036854775807 := fun k hk => by
    obtain ⟨x, hx⟩ : ∃ x, z1[k]? = some x := ⟨_, List.getElem?_eq_getElem (by omega)⟩
    rw [hx]
    exact E.i64_range (wf1 x (List.mem_of_getElem? hx))
  obtain ⟨f, hf⟩ : ∃ f : Nat → Nat, ∀ k, f k = if k < n0 then E.cw z0 z1 k else 0 := ⟨_, fun _ => rfl⟩
  have hfl : ∀ k, f k < 18446744073709551616 := fun k => by
    rw [hf]
    split
    · next h => exact Nat.lt_trans (E.cw_lt (hz k h).2) (by decide)
    · decide
  have hpos := tb.pos
  have TB := Lib.hid tb
  have HZ := Lib.hid hz
  have HY := Lib.hid hy
  have HF := Lib.hid (And.intro hf hfl)
  have HL := Lib.hid (And.intro l0 l1)
  have HR0 := Lib.hid rd0
  have HR1 := Lib.hid rd1
  have hn0 : n0 ≤ 1048575 := by omega
  have hn1 : n1 ≤ 1048575 := by omega
  have hB0 : Below w.heap.size w (w.alloc (.cells #[.slice none 0 0] 45)) := (Below.refl w.heap.size w).alloc (Nat.le_refl _) _
  have hw0 : W.WAt (w.alloc (.cells #[.slice none 0 0] 45)) w.heap.size (.slice none 0 0) [] := ⟨heap_alloc_new w _, World.ownsRow_nil _ _ _ _⟩
  have HB0 := Lib.hid (And.intro hB0 hw0)
  clear wf0 wf1 tb hz hy hf hfl l0 l1 cp0 cp1 nz0 nz1 rd0 rd1 r0 r1 hB0 hw0
  go_enter Tryd.func13, Tryd.ntmps13
  go_wp2_with fail
  go_loopg [6, 7] n0 (fun g i c wr => ∃ k v, k + g = n0 ∧ i = .int .i64 (k : Nat) ∧ W.WAt wr w.heap.size v (E.wb f k) ∧ (∀ j, v.ownBlock = some j → w.heap.size ≤ j) ∧ Below w.heap.size w wr)
  case atStart => exact ⟨0, _, Nat.zero_add _, rfl, HB0.out.2, (fun j hj => by simp [Value.ownBlock] at hj), HB0.out.1⟩
  case round =>
    obtain ⟨k, v, hg, rfl, hwa, hvb, hB⟩ := hrel
    have HG := Lib.hid hg
    have HW := Lib.hid (And.intro hwa (And.intro hvb hB))
    have hk : k ≤ n0 := by omega
    clear hg hwa hvb hB
    by_cases hlt : k < n0
    · obtain ⟨xd, rfl, hxb, hx⟩ := (HR0.out.below HW.out.2.2) k (by rw [HL.out.1]; exact hlt)
      rw [(HZ.out k hlt).1] at hx
      have hxl := (HZ.out k hlt).2
      have htb := TB.out.below hpos HW.out.2.2
      have HE := Lib.hid (E.penc_any (E.wk z0 k) hxl wr htb)
      have hel := (E.enc_ok hxl).lt
      have hfk : f k = E.cw z0 z1 k := by rw [HF.out.1, if_pos hlt]
      have hki : (k : Int) < (n0 : Int) := by omega
      have hk0 : (0 : Int) ≤ (k : Int) := by omega
      have hlen := E.wb_len f HF.out.2 k
      have HU := Lib.hid (fun (m : Nat) => W.uint_wr (f k) (HF.out.2 k) (HW.out.1.keep (below_drewN (Below.refl _ _) m)) (by omega))
      clear htb hxl hlen
      by_cases hb : k < n1
      · obtain ⟨yd, rfl, hyb, hy⟩ := (HR1.out.below HW.out.2.2) k (by rw [HL.out.2]; exact hb)
        have hbi : (k : Int) < (n1 : Int) := by omega
        have hyr := HY.out k hb
        have hc : f k = E.enc (E.wk z0 k) ^^^ 2 ^ (H.around (z1[k]?.getD 0) 39).toNat := by rw [hfk]; unfold E.cw; rw [if_pos (by rw [HL.out.2]; exact hb)]
        have hal := H.around_lt (z1[k]?.getD 0) (m := 39) (by decide)
        have HA := Lib.hid (fun W => H.around_any (z1[k]?.getD 0) 39 hyr.1 hyr.2 (by decide) (by decide) W)
        have hfe := E.flip_in (E.enc (E.wk z0 k)) (b := (H.around (z1[k]?.getD 0) 39).toNat) (by omega)
        rw [← hc, show (((H.around (z1[k]?.getD 0) 39).toNat : Nat) : Int) = H.around (z1[k]?.getD 0) 39 by omega] at hfe
        have HFL := Lib.hid (fun W => E.pflip_any (E.enc (E.wk z0 k)) (H.around (z1[k]?.getD 0) 39) (by omega) W)
        rw [hfe] at HFL
        generalize z1[k]?.getD 0 = y at *
        generalize H.around y 39 = b at *
        have hy2 : ∀ m, (World.drewN wr m).cell? (yd.add k) = some (.int .i64 y) := fun m => by
          rw [(below_drewN (Below.refl wr.heap.size wr) m).cell (p := yd.add k) (by rw [H.add_block]; have := HW.out.2.2.size; omega)]; exact hy
        have HC := Lib.hid hy2
        clear hc hal hyr hfe hy hfk hb hel hy2 hlt
        generalize E.enc (E.wk z0 k) = x at *
        generalize hfk : f k = c at *
        have HFK := Lib.hid hfk
        clear hfk
        go_wp2_with fail
        refine HE.out.mono ?_
        rintro r w1 ⟨rfl, m, rfl⟩
        have hcm := HC.out m
        go_wp2_with fail
        refine (HA.out _).mono ?_
        rintro r w1 ⟨rfl, rfl⟩
        go_wp2_with fail
        refine (HFL.out _).mono ?_
        rintro r w1 ⟨rfl, rfl⟩
        go_wp2_with fail
        refine (HU.out m).mono ?_
        rintro r w2 ⟨rfl, v', hwa, hst⟩
        rw [HFK.out.symm] at hwa
        have hbm : Below w.heap.size w (World.drewN wr m) := below_drewN HW.out.2.2 m
        have hB2 : Below w.heap.size w w2 := hbm.trans (hst.below hbm.size (Nat.le_refl _) HW.out.2.1)
        have hv2 : ∀ j, v'.ownBlock = some j → w.heap.size ≤ j := fun j hj => by
          rcases hst.place j hj with h | h
          · exact HW.out.2.1 j h
          · exact Nat.le_trans hbm.size h
        have HN := Lib.hid (And.intro hwa (And.intro hv2 hB2))
        clear hwa hst hbm hB2 hv2
        go_wp2_with fail
        go_roundg (gk - 1)
        case measure => have := HG.out; omega
        case rel => exact ⟨k + 1, v', by have := HG.out; omega, by go_num, HN.out.1, HN.out.2⟩
      · have hbi : ¬ (k : Int) < (n1 : Int) := by omega
        have hc : f k = E.enc (E.wk z0 k) := by rw [hfk]; unfold E.cw; rw [if_neg (by rw [HL.out.2]; exact hb)]
        rw [← hc] at HE
        clear hc hfk hb hel hlt
        generalize hfk : f k = c at *
        have HFK := Lib.hid hfk
        clear hfk
        go_wp2_with fail
        refine HE.out.mono ?_
        rintro r w1 ⟨rfl, m, rfl⟩
        go_wp2_with fail
        refine (HU.out m).mono ?_
        rintro r w2 ⟨rfl, v', hwa, hst⟩
        rw [HFK.out.symm] at hwa
        have hbm : Below w.heap.size w (World.drewN wr m) := below_drewN HW.out.2.2 m
        have hB2 : Below w.heap.size w w2 := hbm.trans (hst.below hbm.size (Nat.le_refl _) HW.out.2.1)
        have hv2 : ∀ j, v'.ownBlock = some j → w.heap.size ≤ j := fun j hj => by
          rcases hst.place j hj with h | h
          · exact HW.out.2.1 j h
          · exact Nat.le_trans hbm.size h
        have HN := Lib.hid (And.intro hwa (And.intro hv2 hB2))
        clear hwa hst hbm hB2 hv2
        go_wp2_with fail
        go_roundg (gk - 1)
        case measure => have := HG.out; omega
        case rel => exact ⟨k + 1, v', by have := HG.out; omega, by go_num, HN.out.1, HN.out.2⟩
    · obtain rfl : k = n0 := by omega
      clear hlt hk
      have hlen := E.wb_len f HF.out.2 k
      have h2 := W.done_wr HW.out.1 (by omega)
      have hDb := E.wb_byt f k
      have hDt := E.wb_tl f k
      generalize E.wb f k = D at *
      have HD := Lib.hid (And.intro hDb hDt)
      clear hDb hDt HG
      obtain ⟨w2, hw2⟩ : ∃ W1, W1 = wr := ⟨_, rfl⟩
      subst hw2
      go_wp2_with fail
      refine h2.mono ?_
      clear h2
      rintro r w3 ⟨v3, rfl, ho3, hB3⟩
      obtain ⟨m, hm⟩ : ∃ m, D.length = m := ⟨_, rfl⟩
      rw [hm] at ho3 hlen
      obtain ⟨A3, k3, rfl⟩ := H.own_shape ho3
      obtain ⟨_, o1, o2, o3, o4⟩ := W.own_cap ho3
      have HB3 := Lib.hid (HW.out.2.2.trans (hB3.mono HW.out.2.2.size))
      have h3 := W.new_any A3 m k3 D w3 hm (by omega) o3 HD.out.1 (H.own_RdI (n := m) ho3)
      clear ho3 hB3 o1 o2 o3 o4 hm
      go_wp2_with fail
      refine h3.mono ?_
      clear h3
      rintro r w4 ⟨rb, A4, k4, rfl, hr4, hrb, hA4, hB4⟩
      have HB4 := Lib.hid (HB3.out.trans (hB4.mono HB3.out.size))
      have hrb2 : w.heap.size ≤ rb := Nat.le_trans HB3.out.size hrb
      have HR4 := Lib.hid hr4
      clear hB4 hr4 hrb
      go_wp2_with fail
      go_loopg [9, 10, 11, 12] k (fun g i x y z wr => ∃ (j kr : Nat), j + g = k ∧ i = .int .i64 (j : Nat) ∧ W.RAt wr rb A4 m k4 D kr 0 ∧ D.drop kr = E.tl f j g ∧ Below w.heap.size w wr)
      case atStart => exact ⟨0, 0, Nat.zero_add _, rfl, HR4.out, by rw [List.drop_zero]; exact HD.out.2, HB4.out⟩
      case round =>
        obtain ⟨j, kr, hg, rfl, hra, hdr, hB⟩ := hrel
        generalize gk = g0 at *
        have HG := Lib.hid hg
        have hj : j ≤ k := by omega
        have HX := Lib.hid (And.intro hra (And.intro hdr hB))
        clear hra hdr hB
        by_cases hlt : j < k
        · obtain ⟨g1, rfl⟩ : ∃ g1, g0 = g1 + 1 := ⟨g0 - 1, by omega⟩
          have hu := W.uint_rd (s := (E.tl f j (g1 + 1), 0)) HX.out.1 ⟨rfl, fun _ => HX.out.2.1.symm⟩
          rw [E.rU_tl (HF.out.2 j)] at hu
          have hcw : f j = E.cw z0 z1 j := by rw [HF.out.1, if_pos hlt]
          have hdec := E.cw_dec (z0 := z0) (z1 := z1) (k := j) (HZ.out j hlt).2
          rw [← hcw] at hdec
          have HDE := Lib.hid (fun W tb => E.pdec_any (f j) (HF.out.2 j) W tb)
          rw [hdec] at HDE
          have hki : (j : Int) < (k : Int) := by omega
          have hk0 : (0 : Int) ≤ (j : Int) := by omega
          have HZJ := Lib.hid (HZ.out j hlt).1
          have HRJ := Lib.hid (fun W hb => (HR0.out.below (w' := W) hb) j (by rw [HL.out.1]; exact hlt))
          have HU := Lib.hid hu
          clear hg hj hlt hu hcw hdec
          generalize hfj : f j = c at *
          have HFJ := Lib.hid hfj
          clear hfj
          dsimp only at HDE
          go_wp2_with fail
          refine HU.out.mono ?_
          rintro r w5 ⟨rfl, kr', e', hra, hst, hsv⟩
          obtain rfl : e' = 0 := hst.1.symm
          have hB5 : Below w.heap.size w w5 := HX.out.2.2.trans (hsv.below HX.out.2.2.size (fun q hq => by have : q = rb := hq; omega))
          have HN := Lib.hid (And.intro hra (And.intro (hst.2 rfl) hB5))
          clear hra hst hsv hB5
          have HDF := Lib.hid (HDE.out w5 (TB.out.below hpos HN.out.2.2))
          obtain ⟨xd, rfl, hxb, hx⟩ := HRJ.out w5 HN.out.2.2
          rw [HZJ.out] at hx
          rw [HL.out.2] at HDF
          generalize E.wk z0 j = x at *
          by_cases hb : j < n1
          · have hbi : (j : Int) < (n1 : Int) := by omega
            rw [if_pos hb] at HDF
            clear hb
            go_wp2_with fail
            refine HDF.out.mono ?_
            rintro r w6 ⟨rfl, rfl⟩
            go_wp2_with fail
            go_roundg g1
            case measure => omega
            case rel => exact ⟨j + 1, kr', by have := HG.out; omega, by go_num, HN.out.1, HN.out.2.1.symm, HN.out.2.2⟩
          · have hbi : ¬ (j : Int) < (n1 : Int) := by omega
            rw [if_neg hb] at HDF
            clear hb
            go_wp2_with fail
            refine HDF.out.mono ?_
            rintro r w6 ⟨rfl, rfl⟩
            go_wp2_with fail
            go_roundg g1
            case measure => omega
            case rel => exact ⟨j + 1, kr', by have := HG.out; omega, by go_num, HN.out.1, HN.out.2.1.symm, HN.out.2.2⟩
        · obtain rfl : j = k := by omega
          obtain rfl : g0 = 0 := by omega
          have hu := W.end_rd (s := (E.tl f j 0, 0)) HX.out.1 ⟨rfl, fun _ => HX.out.2.1.symm⟩
          rw [show W.endOf ((E.tl f j 0, 0) : W.St) = 0 from rfl] at hu
          have HU := Lib.hid hu
          have HLV := Lib.hid (fun q => E.plives_any (World.drewN wr q) (TB.out.below hpos (below_drewN HX.out.2.2 q)))
          clear hlt hj hg hu
          go_wp2_with fail
          refine HU.out.mono ?_
          rintro r w5 ⟨rfl, q, rfl⟩
          go_wp2_with fail
          refine (HLV.out q).mono ?_
          rintro r w6 ⟨rfl, p, rfl⟩
          go_wp2_with fail
          go_ret
          exact ⟨rfl, below_drewN HX.out.2.2 _⟩

theorem reads (os : Os) {H0 : Type} (enc : TypeId × Value → H0) : ∃ places, DataW.whole enc Tryd.prog ((Go.Proofs.YtbhefdincmfmjaaDoor.E.laidWorld os).forCall (fun _ _ => 0) ⟨#[], #[.slice none 0 0, .slice none 0 0], []⟩).memory Tryd.f13.params.toList Rows.eccWireSpec.vars false (#[.slice none 0 0, .slice none 0 0] : Array Value).toList 8 = some ([.nil, .nil], [], places) :=
  ⟨[], by kernel_rfl⟩
set_option maxRecDepth 100000 in
theorem lifted (os : Os) (started : os.Started) (H0 : Type) (enc : TypeId × Value → H0) (F0 : Stop.Interp) :
    ReturnsInHanded {} Tryd.checked os 13 .any ((Rows.OpenSpec.upto Rows.eccWireSpec).preRow enc Tryd.prog Tryd.f13 Rows.eccWireUptoRow.domain false Rows.eccWireUptoRow.laid) (((Rows.OpenSpec.upto Rows.eccWireSpec).at F0).post enc Tryd.prog Tryd.f13 false true false false) := by
  obtain ⟨places, hx⟩ := reads os enc
  refine returnsInHanded_of_row (C := Tryd.checked) (s := (Rows.OpenSpec.upto Rows.eccWireSpec)) Go.Proofs.YtbhefdincmfmjaaDoor.O.own started (by kernel_rfl) Tryd.func13
    (witness_row_at (enc := enc) (C := Tryd.checked) false (Go.Proofs.YtbhefdincmfmjaaDoor.E.laidWorld os) #[.slice none 0 0, .slice none 0 0] rfl (by kernel_rfl) (by kernel_rfl) (by kernel_rfl)
      (OpenSpec.preRow_of_cond 8 hx (by kernel_rfl) (fun k hk => by cases hk; kernel_rfl) (by kernel_rfl) (Go.Proofs.YtbhefdincmfmjaaDoor.E.laid_met os _))) ?_
  intro W base args ds gs before hval0 hW _ hk0 hsz0 hL _ _
  have hval : ∀ (j : Nat) t v, Tryd.f13.params[j]? = some t → args[j]? = some v → Value.okWide Tryd.prog W .any base t v := hval0
  have hW' := hW
  obtain ⟨p, q, hA0, hV, rfl, hfz, hnd⟩ := hW
  have hA : DataW.TrodAll enc Tryd.prog W 0 (fun _ => true) true Tryd.f13.params.toList args.toList ds p := hA0
  rw [Tryd.params13] at hA hval
  obtain ⟨v0, vs0, d0, ds0, p0, q0, hargs, rfl, rfl, h0, r0⟩ := trodAll_cons hA
  obtain ⟨v1, vs1, d1, ds1, p1, q1, rfl, rfl, rfl, h1, r1⟩ := trodAll_cons r0
  obtain ⟨rfl, rfl, rfl⟩ := trodAll_nil r1
  obtain rfl : args = #[v0, v1] := by cases args; simp_all
  obtain ⟨rfl, rfl⟩ := trodVars_none hV
  obtain ⟨a0, n0, c0, rfl⟩ := okWide_slice Tryd.underlying39 (hval 0 39 v0 rfl rfl)
  have k0 := h0
  have lt0 : ∀ x ∈ p0, x.block < W.heap.size := by obtain ⟨m, hm⟩ := k0; exact DataW.trod_lt m _ _ _ hm
  obtain ⟨z0, l0, cp0, cq0, nz0, rd0, wf0, bj0⟩ := Go.Proofs.YtbhefdincmfmjaaDoor.O.open_isT Tryd.underlying39 Tryd.underlying22 (by kernel_rfl) h0
  obtain ⟨a1, n1, c1, rfl⟩ := okWide_slice Tryd.underlying40 (hval 1 40 v1 rfl rfl)
  have k1 := h1
  have lt1 : ∀ x ∈ p1, x.block < W.heap.size := by obtain ⟨m, hm⟩ := k1; exact DataW.trod_lt m _ _ _ hm
  obtain ⟨z1, l1, cp1, cq1, nz1, rd1, wf1, bj1⟩ := Go.Proofs.YtbhefdincmfmjaaDoor.O.open_isT Tryd.underlying40 Tryd.underlying3 (by kernel_rfl) h1
  clear hA0 hval0
  have hk := of_decide_eq_true (hk0 _ rfl)
  simp only [List.append_nil, Rows.uptoBulkAll] at hk
  have r0 : z0.length ≤ 1048575 := by omega
  have r1 : z1.length ≤ 1048575 := by omega
  have tb := Go.Proofs.YtbhefdincmfmjaaDoor.E.tab_of_laid hL
  refine (walk a0 n0 c0 z0 a1 n1 c1 z1 W tb l0 ⟨cp0, cq0⟩ nz0 rd0 wf0 r0 l1 ⟨cp1, cq1⟩ nz1 rd1 wf1 r1).mono fun e W' ⟨he, bel⟩ => ?_
  subst he
  exact ⟨_, rfl, _, _, _, [], _, [], hW', trodAll_mk1 (shut_bool Tryd.underlying4 _), (trodAll_cons_mk (Below.trod Go.Proofs.YtbhefdincmfmjaaDoor.O.laidOut (by kernel_rfl) (of_decide_eq_true (by kernel_rfl)) k0 bel lt0) (trodAll_cons_mk (Below.trod Go.Proofs.YtbhefdincmfmjaaDoor.O.laidOut (by kernel_rfl) (of_decide_eq_true (by kernel_rfl)) k1 bel lt1) trodAll_mk0)), rfl, bel.frame _, fun h => by cases h⟩

theorem said : Rows.EccWireUptoSaid :=
  OpenClaim.holds_of_cond 13 Tryd.f13 rfl rfl rfl rfl rfl rfl rfl ⟨rfl, rfl, rfl, rfl, rfl⟩ rfl rfl rfl rfl rfl (by kernel_rfl) Tryd.func13 (by kernel_rfl)
    (of_decide_eq_true (by kernel_rfl)) (by unfold Func.isWrapper; first | (rw [if_pos (by decide +kernel)]; kernel_rfl) | (rw [if_neg (by decide +kernel)]; exact ⟨rfl, rfl⟩))
    (fun os started H0 enc _ F0 => by rw [OpenClaim.pre_eq_preRow]; exact lifted os started H0 enc F0)
theorem plain (f : FuncId) (fn : Func) (hf : Tryd.pinned.checked.prog.funcNamed "perigee/perigeelaw05.EccWire" = some f) (hfn : Tryd.pinned.checked.prog.funcs[f]? = some fn) :
    false = Tryd.pinned.checked.prog.looks [] ∧ ∀ (j : Nat) t, fn.params[j]? = some t → Tryd.pinned.checked.prog.wantsStandIn t = false := by
  obtain rfl : f = 13 := Option.some.inj ((show Tryd.prog.funcNamed "perigee/perigeelaw05.EccWire" = some 13 by kernel_rfl).symm.trans hf) |>.symm
  obtain rfl : fn = Tryd.f13 := (Option.some.inj (Tryd.func13.symm.trans hfn)).symm
  refine ⟨by kernel_rfl, fun j t ht => ?_⟩
  rw [Tryd.params13] at ht
  have hm : t ∈ [39, 40] := by simpa using Array.mem_of_getElem? ht
  have hall : ([39, 40].all fun u => !Tryd.prog.wantsStandIn u) = true := by kernel_rfl
  exact (show Tryd.prog.wantsStandIn t = false by simpa using List.all_eq_true.1 hall t hm)
/-- ████ THE CARD ████ -/
theorem proved : Rows.EccWireUptoCardSaid :=
  Claim7.holds_tied_plain_at .later [] _ _ _ _ said (fun _ h => by cases h) (by kernel_rfl) (fun _ h => by cases h) eccWireUpto_row_tie rfl ⟨rfl, rfl⟩ (by kernel_rfl) rfl plain (by kernel_rfl)
end Go.Proofs.YtbhefdincmfmjaaDoor.eccWire
