/-
  For every byte slice, every position and every pattern of 32 bits, CrcBursts returns true: if bits of the sealed slice of at most 1000 bytes are inverted, at least one, all within 32 bits from the position on, Open returns ErrSum; if none is, it opens.
-/
import Derived.Test.YtpkhbglmbdpodaaDoorCProg
import Derived.Deep.DeepCutAuto
import Derived.Deep.RegionHeld3
import Derived.Deep.LoopGhost
import Derived.Deep.QuietTactic
import Derived.Test.YtpkhbglmbdpodaaDoorApp
namespace Go.Proofs.YtpkhbglmbdpodaaDoor.crcBursts
open Go.ChangeShapes Go.WideShapes Go.ChangeAt Go.RowKit
open Go.ChangeMaps (open_string shut_string)
set_option linter.unusedVariables false
theorem own_zero {w : World} {base n : Nat} {e : TypeId} {v : Value} {xs : List Value} (h : w.ownsRow base e 1 v n xs) : w.ownsRow 0 e 1 v n xs :=
  ⟨h.1, h.2.imp id fun ⟨g, cap, cur, h1, _, h3⟩ => ⟨g, cap, cur, h1, Nat.zero_le _, h3⟩⟩
theorem xor_add {a j : Nat} (h : a < 2 ^ j) : a ^^^ 2 ^ j = a + 2 ^ j := by
  have h1 := C.split_xor j (a + 2 ^ j)
  have hp := Nat.two_pow_pos j
  rw [Nat.add_mod_right, Nat.mod_eq_of_lt h, Nat.add_div_right _ hp, Nat.div_eq_of_lt h, Nat.zero_add, Nat.mul_one] at h1
  exact h1
theorem step_one {P f k : Nat} (hb : P / 2 ^ k % 2 = 1) : 2 ^ f * (P % 2 ^ k) ^^^ 2 ^ (f + k) = 2 ^ f * (P % 2 ^ (k + 1)) := by
  have hlt : 2 ^ f * (P % 2 ^ k) < 2 ^ (f + k) := by
    rw [Nat.pow_add]
    exact Nat.mul_lt_mul_of_pos_left (Nat.mod_lt _ (Nat.two_pow_pos k)) (Nat.two_pow_pos f)
  rw [xor_add hlt, Nat.mod_pow_succ, hb, Nat.mul_one, Nat.mul_add, Nat.pow_add]
theorem step_zero {P k : Nat} (hb : ¬ P / 2 ^ k % 2 = 1) : P % 2 ^ (k + 1) = P % 2 ^ k := by
  rw [Nat.mod_pow_succ, show P / 2 ^ k % 2 = 0 from by omega, Nat.mul_zero, Nat.add_zero]
theorem mod_lt32 {P k : Nat} (h : k ≤ 32) : P % 2 ^ k < 4294967296 := Nat.lt_of_lt_of_le (Nat.mod_lt _ (Nat.two_pow_pos k)) (Nat.pow_le_pow_right (n := 2) (by decide) h)

set_option maxRecDepth 100000 in
set_option maxHeartbeats 1000000 in
theorem walk (a0 : Option Addr) (n0 c0 : Nat) (z0 : List Int) (a1 : Int) (a2 : Int) (w : World) (tb : C.Tab w) (l0 : z0.length = n0) (cp0 : n0 ≤ c0 ∧ c0 ≤ maxLen) (nz0 : a0 = none → c0 = 0) (rd0 : H.RdI w w.heap.size .u8 a0 z0) (wf0 : ∀ n ∈ z0, (Lit.int .u8 n).wf = true) (r0 : z0.length * 1 ≤ 140737488351232) (w1 : (Lit.int .u16 a1).wf = true) (w2 : (Lit.int .u32 a2).wf = true) :
    Calls Tryd.prog 8 #[.slice a0 n0 c0, .int .u16 a1, .int .u32 a2] w fun e w' => e = .returned (.bool true) ∧ Below w.heap.size w w' := by
  have hb := H.u8_byt wf0
  have q1 := C.u16_range w1
  have q2 := C.u32_range w2
  obtain ⟨i1, rfl⟩ : ∃ i : Nat, a1 = i := ⟨a1.toNat, by omega⟩
  obtain ⟨P, rfl⟩ : ∃ i : Nat, a2 = i := ⟨a2.toNat, by omega⟩
  have TB := Lib.hid tb
  have HL := Lib.hid l0
  have HB := Lib.hid hb
  have HR := Lib.hid rd0
  have HC := Lib.hid cp0
  have HN := Lib.hid nz0
  have hpos := tb.pos
  obtain ⟨S, hS⟩ : ∃ S, C.sea z0 = S := ⟨_, rfl⟩
  obtain ⟨L, hL⟩ : ∃ L, S.length = L := ⟨_, rfl⟩
  have hSl : L = n0 + 4 := by rw [← hL, ← hS, C.sea_len, l0]
  have hSb : ∀ b ∈ S, b < 256 := by rw [← hS]; exact C.sea_byt hb
  have hSk : C.reg C.ones S = C.st 32 C.ones := by rw [← hS]; exact C.sea_reg hb
  have hSi : z0 ++ C.ints (C.le4 (C.sum (C.nats z0))) = C.ints S := by rw [← hS]; exact C.sea_ints hb
  have HS := Lib.hid (And.intro hL (And.intro hSb (And.intro hSk (And.intro hSi hSl))))
  have Q2 := Lib.hid q2
  clear wf0 rd0 tb hb l0 cp0 nz0 r0 w1 w2 hL hSb hSk hSi hS q2
  go_enter Tryd.func8, Tryd.ntmps8
  by_cases hbig : (1000 : Int) < (n0 : Int)
  · have hlv := C.plives_any w TB.out
    have hbl : Below w.heap.size w w := Below.refl _ w
    have HBL := Lib.hid hbl
    clear hbl
    go_wp2_with fail
    refine hlv.mono ?_
    clear hlv
    rintro r w99 ⟨rfl, hb99⟩
    have HB99 := Lib.hid (HBL.out.trans (hb99.mono HBL.out.size))
    clear hb99
    go_wp2_with fail
    go_ret
    exact ⟨rfl, HB99.out⟩
  · have hn : n0 ≤ 1000 := by omega
    have hL4 : 4 ≤ L := by omega
    have hLm : L ≤ 1004 := by omega
    have h1 := C.pseal_any a0 n0 c0 z0 w TB.out HL.out (by omega) HC.out HN.out HB.out HR.out
    rw [HS.out.2.2.2.1] at h1
    have hne : ((L : Int) != (n0 : Int) + 4) = false := by simp; omega
    obtain ⟨f, hp⟩ : ∃ p, i1 % (8 * L) = p := ⟨_, rfl⟩
    have hf8 : f < 8 * L := by rw [← hp]; exact Nat.mod_lt _ (by omega)
    have ep : (i1 : Int) % (8 * (L : Int)) = (f : Int) := by rw [← hp]; push_cast; rfl
    have hz8 : ¬ (8 * (L : Int) = 0) := by omega
    have hz9 : ¬ (L = 0) := by omega
    clear hp hSl
    go_wp2_with fail
    refine h1.mono ?_
    clear h1
    rintro r w1 ⟨v1, rfl, ho1, hB1⟩
    have hli : (C.ints S).length = L := by rw [C.ints_len, HS.out.1]
    rw [hli] at ho1
    obtain ⟨A1, k1, rfl⟩ := H.own_shape ho1
    have HO1 := Lib.hid (own_zero ho1)
    have HB1 := Lib.hid hB1
    clear ho1 hB1 hli
    go_wp2_with fail
    simp only [ep]
    go_loopg [7, 10, 11] 32 (fun g v b i wr => ∃ (k : Nat) (A : Option Addr) (cap : Nat), k + g = 32 ∧ i = .int .i64 k ∧ f + k ≤ 8 * L ∧ v = .slice A L cap ∧ b = .bool (!decide (P % 2 ^ k = 0)) ∧ wr.ownsRow 0 5 1 v L ((C.ints (C.chg S (2 ^ f * (P % 2 ^ k)))).map (Value.int .u8)) ∧ Below w.heap.size w wr)
    case atStart =>
      refine ⟨0, A1, k1, Nat.zero_add _, rfl, by omega, rfl, ?_, ?_, HB1.out⟩
      · simp [Nat.mod_one]
      · rw [Nat.pow_zero, Nat.mod_one, Nat.mul_zero, C.chg_zero]
        exact HO1.out
    case round =>
      obtain ⟨k, A, cap, hg, rfl, hfk, rfl, rfl, hown, hB⟩ := hrel
      obtain ⟨e, he⟩ : ∃ e, 2 ^ f * (P % 2 ^ k) = e := ⟨_, rfl⟩
      rw [he] at hown
      have hli : (C.ints (C.chg S e)).length = L := by rw [C.ints_len, C.chg_len, HS.out.1]
      have hby : H.Byt (C.ints (C.chg S e)) := C.ints_byt (C.chg_byt HS.out.2.1 _)
      obtain ⟨E, hE⟩ : ∃ E, C.ints (C.chg S e) = E := ⟨_, rfl⟩
      have hnat : C.nats E = C.chg S e := by rw [← hE, C.nats_ints]
      rw [hE] at hown hli hby
      obtain ⟨_, o1, o2, o3, o4⟩ := C.own_cap (show wr.ownsRow 0 5 1 (.slice A L cap) L (E.map (Value.int .u8)) from hown)
      have hrd : H.RdI wr wr.heap.size .u8 A E := H.own_RdI hown
      have HE := Lib.hid (And.intro hli (And.intro hby (And.intro hnat (And.intro he hE))))
      have HG := Lib.hid hg
      have HO := Lib.hid hown
      have HBr := Lib.hid hB
      have hk32 : k ≤ 32 := by omega
      clear hown hB hg hli hby hnat he hE o4
      by_cases hlt : k < 32 ∧ f + k < 8 * L
      · obtain ⟨hlt1, hlt2⟩ := hlt
        have m1 : (k : Int) < 32 := by omega
        have m2 : (f : Int) + (k : Int) < 8 * (L : Int) := by omega
        have hcast : (P : Int) / 2 ^ k = ((P / 2 ^ k : Nat) : Int) := by push_cast; rfl
        by_cases hbit : P / 2 ^ k % 2 = 1
        · have m3 : (((P : Int) / 2 ^ k).tmod 2 == 1) = true := by
            rw [hcast, Int.tmod_eq_emod_of_nonneg (Int.natCast_nonneg _)]
            simp
            omega
          have h2 := C.flip_any A L cap (f + k) E wr HE.out.1 (by omega) o3 HE.out.2.1 hrd (by omega)
          rw [Int.natCast_add] at h2
          have hfl : C.flipL (C.nats E) (f + k) = C.chg S (2 ^ f * (P % 2 ^ (k + 1))) := by
            rw [HE.out.2.2.1, C.chg_flip (by rw [HS.out.1]; exact hlt2), ← HE.out.2.2.2.1, step_one hbit]
          rw [hfl] at h2
          have HBIT := Lib.hid (show ¬ P % 2 ^ (k + 1) = 0 by rw [Nat.mod_pow_succ, hbit]; have := Nat.two_pow_pos k; omega)
          clear hbit hfl hcast hrd
          go_wp2_with fail
          refine h2.mono ?_
          clear h2
          rintro r w2 ⟨v2, rfl, ho2, hB2⟩
          have hl2 : (C.ints (C.chg S (2 ^ f * (P % 2 ^ (k + 1))))).length = L := by rw [C.ints_len, C.chg_len, HS.out.1]
          rw [hl2] at ho2
          obtain ⟨A2, k2, rfl⟩ := H.own_shape ho2
          have HO2 := Lib.hid (own_zero ho2)
          have HB2 := Lib.hid (HBr.out.trans (hB2.mono HBr.out.size))
          clear ho2 hB2 hl2
          go_wp2_with fail
          go_roundg (gk - 1)
          case measure => have := HG.out; omega
          case rel => exact ⟨k + 1, A2, k2, by have := HG.out; omega, by go_num, by omega, rfl, by rw [decide_eq_false HBIT.out]; rfl, HO2.out, HB2.out⟩
        · have m3 : (((P : Int) / 2 ^ k).tmod 2 == 1) = false := by
            rw [hcast, Int.tmod_eq_emod_of_nonneg (Int.natCast_nonneg _)]
            simp
            omega
          have HZ := Lib.hid (step_zero hbit)
          clear hbit hcast hrd
          go_wp2_with fail
          go_roundg (gk - 1)
          case measure => have := HG.out; omega
          case rel =>
            refine ⟨k + 1, A, cap, by have := HG.out; omega, by go_num, by omega, rfl, by rw [HZ.out], ?_, HBr.out⟩
            rw [HZ.out, HE.out.2.2.2.1, HE.out.2.2.2.2]
            exact HO.out
      · have hex : (k : Int) < 32 → ¬ (f : Int) + (k : Int) < 8 * (L : Int) := fun h1 h2 => hlt ⟨by omega, by omega⟩
        have h5 := C.popen_any A L cap E wr (TB.out.below hpos HBr.out) HE.out.1 (by omega) ⟨o1, o2⟩ o3 HE.out.2.1 hrd
        have hcode : (C.openR E).2 = if P % 2 ^ k = 0 then 0 else 8 := by
          have hm := mod_lt32 (P := P) hk32
          have hel : e < 256 ^ S.length := by
            rw [← HE.out.2.2.2.1, C.pow256, HS.out.1]
            have h6 : 2 ^ f * (P % 2 ^ k) < 2 ^ (f + k) := by
              rw [Nat.pow_add]
              exact Nat.mul_lt_mul_of_pos_left (Nat.mod_lt _ (Nat.two_pow_pos k)) (Nat.two_pow_pos f)
            exact Nat.lt_of_lt_of_le h6 (Nat.pow_le_pow_right (by decide) hfk)
          have h := C.code_chg HS.out.2.1 HS.out.2.2.1 (by rw [HS.out.1]; exact hL4) hel
          rw [HE.out.2.2.2.2] at h
          rw [h]
          by_cases h0 : P % 2 ^ k = 0
          · rw [if_pos h0, ← HE.out.2.2.2.1, h0, Nat.mul_zero, C.st_zero, if_pos rfl]
          · rw [if_neg h0, if_neg]
            rw [← HE.out.2.2.2.1]
            exact C.burst_ne hm h0 (by rw [HS.out.1]; omega)
        rw [hcode] at h5
        clear hlt hcode hrd hfk
        have key : ∀ (Q : Prop), ((k : Int) < 32 → ¬ (f : Int) + (k : Int) < 8 * (L : Int) → Q) → (¬ (k : Int) < 32 → Q) → Q := fun Q h1 h2 => by
          by_cases h : (k : Int) < 32
          · exact h1 h (hex h)
          · exact h2 h
        clear hex
        refine key _ (fun m1 m2 => ?_) (fun m1 => ?_)
        all_goals
          clear key
          by_cases h0 : P % 2 ^ k = 0
          · rw [if_pos h0] at h5
            have hc : (!decide (P % 2 ^ k = 0)) = false := by rw [decide_eq_true h0]; rfl
            rw [hc]
            clear hc h0
            go_wp2_with fail
            refine h5.mono ?_
            clear h5
            rintro r w5 ⟨A5, k5, rfl, _, _, _, _, hb5⟩
            have HB5 := Lib.hid (HBr.out.trans (hb5.mono HBr.out.size))
            clear hb5
            have hlv := C.plives_any w5 (TB.out.below hpos HB5.out)
            have hbl : Below w.heap.size w w5 := HB5.out
            have HBL := Lib.hid hbl
            clear hbl
            go_wp2_with fail
            refine hlv.mono ?_
            clear hlv
            rintro r w99 ⟨rfl, hb99⟩
            have HB99 := Lib.hid (HBL.out.trans (hb99.mono HBL.out.size))
            clear hb99
            go_wp2_with fail
            go_ret
            exact ⟨rfl, HB99.out⟩
          · rw [if_neg h0] at h5
            have hc : (!decide (P % 2 ^ k = 0)) = true := by rw [decide_eq_false h0]; rfl
            rw [hc]
            clear hc h0
            go_wp2_with fail
            refine h5.mono ?_
            clear h5
            rintro r w5 ⟨A5, k5, rfl, _, _, _, _, hb5⟩
            have HB5 := Lib.hid (HBr.out.trans (hb5.mono HBr.out.size))
            clear hb5
            have hlv := C.plives_any w5 (TB.out.below hpos HB5.out)
            have hbl : Below w.heap.size w w5 := HB5.out
            have HBL := Lib.hid hbl
            clear hbl
            go_wp2_with fail
            refine hlv.mono ?_
            clear hlv
            rintro r w99 ⟨rfl, hb99⟩
            have HB99 := Lib.hid (HBL.out.trans (hb99.mono HBL.out.size))
            clear hb99
            go_wp2_with fail
            go_ret
            exact ⟨rfl, HB99.out⟩

theorem reads (os : Os) {H0 : Type} (enc : TypeId × Value → H0) : ∃ places, DataW.whole enc Tryd.prog ((Go.Proofs.YtpkhbglmbdpodaaDoor.C.laidWorld os).forCall (fun _ _ => 0) ⟨#[], #[.slice none 0 0, .int .u16 0, .int .u32 0], []⟩).memory Tryd.f8.params.toList Rows.crcBurstsSpec.vars false (#[.slice none 0 0, .int .u16 0, .int .u32 0] : Array Value).toList 8 = some ([.nil, .lit (.int .u16 0), .lit (.int .u32 0)], [], places) :=
  ⟨[], by kernel_rfl⟩
set_option maxRecDepth 100000 in
theorem lifted (os : Os) (started : os.Started) (H0 : Type) (enc : TypeId × Value → H0) (F0 : Stop.Interp) :
    ReturnsInHanded {} Tryd.checked os 8 .any ((OpenSpec.ofChange Rows.crcBurstsSpec).preRow enc Tryd.prog Tryd.f8 Rows.crcBurstsRow.domain false Rows.crcBurstsRow.laid) (((OpenSpec.ofChange Rows.crcBurstsSpec).at F0).post enc Tryd.prog Tryd.f8 false true false false) := by
  obtain ⟨places, hx⟩ := reads os enc
  refine returnsInHanded_of_row (C := Tryd.checked) (s := (OpenSpec.ofChange Rows.crcBurstsSpec)) Go.Proofs.YtpkhbglmbdpodaaDoor.O.own started (by kernel_rfl) Tryd.func8
    (witness_row_at (enc := enc) (C := Tryd.checked) false (Go.Proofs.YtpkhbglmbdpodaaDoor.C.laidWorld os) #[.slice none 0 0, .int .u16 0, .int .u32 0] rfl (by kernel_rfl) (by kernel_rfl) (by kernel_rfl)
      (OpenSpec.preRow_of_cond 8 hx (by kernel_rfl) (fun k hk => by cases hk) (by kernel_rfl) (Go.Proofs.YtpkhbglmbdpodaaDoor.C.laid_met os _))) ?_
  intro W base args ds gs before hval0 hW _ hk0 hsz0 hL _ _
  have hsz : (DataW.weightsEach Tryd.prog (Tryd.f8.params.toList ++ (OpenSpec.ofChange Rows.crcBurstsSpec).bare.plain.varTypes Tryd.prog) (ds ++ gs)).all (· ≤ reachBytes) = true := hsz0
  clear hsz0
  have hval : ∀ (j : Nat) t v, Tryd.f8.params[j]? = some t → args[j]? = some v → Value.okWide Tryd.prog W .any base t v := hval0
  have hW' := hW
  obtain ⟨p, q, hA0, hV, rfl, hfz, hnd⟩ := hW
  have hA : DataW.TrodAll enc Tryd.prog W 0 (fun _ => true) true Tryd.f8.params.toList args.toList ds p := hA0
  rw [Tryd.params8] at hA hval hsz
  obtain ⟨v0, vs0, d0, ds0, p0, q0, hargs, rfl, rfl, h0, r0⟩ := trodAll_cons hA
  obtain ⟨v1, vs1, d1, ds1, p1, q1, rfl, rfl, rfl, h1, r1⟩ := trodAll_cons r0
  obtain ⟨v2, vs2, d2, ds2, p2, q2, rfl, rfl, rfl, h2, r2⟩ := trodAll_cons r1
  obtain ⟨rfl, rfl, rfl⟩ := trodAll_nil r2
  obtain rfl : args = #[v0, v1, v2] := by cases args; simp_all
  obtain ⟨rfl, rfl⟩ := trodVars_none hV
  obtain ⟨a0, n0, c0, rfl⟩ := okWide_slice Tryd.underlying22 (hval 0 22 v0 rfl rfl)
  have k0 := h0
  have lt0 : ∀ x ∈ p0, x.block < W.heap.size := by obtain ⟨m, hm⟩ := k0; exact DataW.trod_lt m _ _ _ hm
  obtain ⟨z0, l0, cp0, cq0, nz0, rd0, wf0, bj0⟩ := Go.Proofs.YtpkhbglmbdpodaaDoor.O.open_isT Tryd.underlying22 Tryd.underlying5 (by kernel_rfl) h0
  have el0 := Go.Proofs.YtpkhbglmbdpodaaDoor.O.open_el Tryd.underlying22 Tryd.underlying5 (by kernel_rfl) k0
  obtain ⟨a1, rfl, rfl, rfl, w1⟩ := open_int Tryd.underlying37 (hval 1 37 v1 rfl rfl) h1
  obtain ⟨a2, rfl, rfl, rfl, w2⟩ := open_int Tryd.underlying23 (hval 2 23 v2 rfl rfl) h2
  clear hA0 hval0
  have r0 : z0.length * 1 ≤ 140737488351232 := by
    rcases el0 with h | ⟨es, sp, h, hle⟩
    · omega
    · have hr := sized_slice hsz (j := 0) (t := 22) (e := 5) (elems := es) (spare := sp) rfl (by simp [h]) Tryd.underlying22
      rw [show Tryd.prog.bytesOf 5 = 1 from by kernel_rfl] at hr
      simp only [reachBytes] at hr
      omega
  have tb := Go.Proofs.YtpkhbglmbdpodaaDoor.C.tab_of_laid hL
  refine (walk a0 n0 c0 z0 a1 a2 W tb l0 ⟨cp0, cq0⟩ nz0 rd0 wf0 r0 w1 w2).mono fun e W' ⟨he, bel⟩ => ?_
  subst he
  exact ⟨_, rfl, _, _, _, [], _, [], hW', trodAll_mk1 (shut_bool Tryd.underlying4 _), (trodAll_cons_mk (Below.trod Go.Proofs.YtpkhbglmbdpodaaDoor.O.laidOut (by kernel_rfl) (of_decide_eq_true (by kernel_rfl)) k0 bel lt0) (trodAll_cons_mk (shut_int Tryd.underlying37 w1) (trodAll_cons_mk (shut_int Tryd.underlying23 w2) trodAll_mk0))), rfl, bel.frame _, fun h => by cases h⟩

theorem said : Rows.CrcBurstsSaid :=
  OpenClaim.holds_of_cond 8 Tryd.f8 rfl rfl rfl rfl rfl rfl rfl ⟨rfl, rfl, rfl, rfl, rfl⟩ rfl rfl rfl rfl rfl (by kernel_rfl) Tryd.func8 (by kernel_rfl)
    (of_decide_eq_true (by kernel_rfl)) (by unfold Func.isWrapper; first | (rw [if_pos (by decide +kernel)]; kernel_rfl) | (rw [if_neg (by decide +kernel)]; exact ⟨rfl, rfl⟩))
    (fun os started H0 enc _ F0 => by rw [OpenClaim.pre_eq_preRow]; exact lifted os started H0 enc F0)
theorem plain (f : FuncId) (fn : Func) (hf : Tryd.pinned.checked.prog.funcNamed "perigee/perigeelaw03.CrcBursts" = some f) (hfn : Tryd.pinned.checked.prog.funcs[f]? = some fn) :
    false = Tryd.pinned.checked.prog.looks [] ∧ ∀ (j : Nat) t, fn.params[j]? = some t → Tryd.pinned.checked.prog.wantsStandIn t = false := by
  obtain rfl : f = 8 := Option.some.inj ((show Tryd.prog.funcNamed "perigee/perigeelaw03.CrcBursts" = some 8 by kernel_rfl).symm.trans hf) |>.symm
  obtain rfl : fn = Tryd.f8 := (Option.some.inj (Tryd.func8.symm.trans hfn)).symm
  refine ⟨by kernel_rfl, fun j t ht => ?_⟩
  rw [Tryd.params8] at ht
  have hm : t ∈ [22, 37, 23] := by simpa using Array.mem_of_getElem? ht
  have hall : ([22, 37, 23].all fun u => !Tryd.prog.wantsStandIn u) = true := by kernel_rfl
  exact (show Tryd.prog.wantsStandIn t = false by simpa using List.all_eq_true.1 hall t hm)
/-- ████ THE CARD ████ -/
theorem proved : Rows.CrcBurstsCardSaid :=
  Claim7.holds_tied_plain_at .later [] _ _ _ _ said (fun _ h => by cases h) (by kernel_rfl) (fun _ h => by cases h) crcBursts_row_tie rfl ⟨rfl, rfl⟩ (by kernel_rfl) rfl plain (by kernel_rfl)
end Go.Proofs.YtpkhbglmbdpodaaDoor.crcBursts
