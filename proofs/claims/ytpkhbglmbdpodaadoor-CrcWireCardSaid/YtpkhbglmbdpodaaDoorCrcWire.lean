/-
  For every list of numbers, every position and every byte, CrcWire returns true: the encoding of a list of at most 100 numbers, sealed, opens to the same list; after any single byte was changed it does not open.
-/
import Derived.Test.YtpkhbglmbdpodaaDoorCProg
import Derived.Test.YtpkhbglmbdpodaaDoorVWr
import Derived.Deep.DeepCutAuto
import Derived.Deep.RegionHeld3
import Derived.Deep.LoopGhost
import Derived.Deep.QuietTactic
import Derived.Test.YtpkhbglmbdpodaaDoorApp
namespace Go.Proofs.YtpkhbglmbdpodaaDoor.crcWire
open Go.ChangeShapes Go.WideShapes Go.ChangeAt Go.RowKit
open Go.ChangeMaps (open_string shut_string)
set_option linter.unusedVariables false
theorem read_list {z : List Int} (hz : ∀ x ∈ z, -9223372036854775808 ≤ x ∧ x ≤ 9223372036854775807) (h : z.length ≤ 100) : W.rL (W.encU z.length ++ W.encL z, 0) 100 = (([], 0), z) := by
  have h1 := W.rS_enc (n := z.length) (by omega) (W.encL z) (m := 100) (by omega)
  have h2 := W.rN_enc z [] hz
  rw [List.append_nil] at h2
  unfold W.rL
  rw [h1]
  simp only
  rw [h2, if_neg (by simp)]
theorem enc_byt (n : Nat) (z : List Int) : H.Byt (W.encU n ++ W.encL z) := fun x hx => by
  rcases List.mem_append.1 hx with h | h
  · exact W.encU_byt _ x h
  · unfold W.encL at h
    obtain ⟨y, _, hy⟩ := List.mem_flatMap.1 h
    exact W.encU_byt _ x hy
theorem enc_len {n : Nat} (hn : n ≤ 100) {z : List Int} (hl : z.length = n) (hz : ∀ x ∈ z, -9223372036854775808 ≤ x ∧ x ≤ 9223372036854775807) : (W.encU n ++ W.encL z).length ≤ 1010 := by
  have h1 := W.encU_len 9 (n := n) (Nat.lt_of_le_of_lt hn (by decide))
  have h2 := W.encL_len z hz
  rw [List.length_append]
  omega
theorem own_aside {w w' : World} {base n : Nat} {e : TypeId} {v : Value} {xs : List Value} {F : Nat → Prop} (h : w.ownsRow base e 1 v n xs) (hs : W.Save F w w') (hd : ∀ j, v.ownBlock = some j → ¬ F j) : w'.ownsRow base e 1 v n xs := by
  refine ⟨h.1, ?_⟩
  rcases h.2 with h2 | ⟨g, cap, cur, rfl, hg, hh, hr⟩
  · exact .inl h2
  · exact .inr ⟨g, cap, cur, rfl, hg, (hs.block g (Array.getElem?_eq_some_iff.1 hh).1 (hd g rfl)).trans hh, hr⟩

set_option maxRecDepth 100000 in
set_option maxHeartbeats 1000000 in
theorem walk (a0 : Option Addr) (n0 c0 : Nat) (z0 : List Int) (a1 : Int) (a2 : Int) (w : World) (tb : C.Tab w) (l0 : z0.length = n0) (cp0 : n0 ≤ c0 ∧ c0 ≤ maxLen) (nz0 : a0 = none → c0 = 0) (rd0 : H.RdI w w.heap.size .i64 a0 z0) (wf0 : ∀ n ∈ z0, (Lit.int .i64 n).wf = true) (r0 : z0.length * 8 ≤ 140737488351232) (w1 : (Lit.int .u16 a1).wf = true) (w2 : (Lit.int .u8 a2).wf = true) :
    Calls Tryd.prog 12 #[.slice a0 n0 c0, .int .u16 a1, .int .u8 a2] w fun e w' => e = .returned (.bool true) ∧ Below w.heap.size w w' := by
  have hz := fun z hz => H.i64_range (wf0 z hz)
  have q1 := C.u16_range w1
  have q2 := H.u8_range w2
  obtain ⟨i1, rfl⟩ : ∃ i : Nat, a1 = i := ⟨a1.toNat, by omega⟩
  obtain ⟨y, rfl⟩ : ∃ i : Nat, a2 = i := ⟨a2.toNat, by omega⟩
  have TB := Lib.hid tb
  have HL := Lib.hid l0
  have HZ := Lib.hid hz
  have HR := Lib.hid rd0
  have hpos := tb.pos
  have Q := Lib.hid (And.intro q1 q2)
  clear wf0 rd0 tb hz l0 cp0 nz0 r0 w1 w2 q1 q2
  go_enter Tryd.func12, Tryd.ntmps12
  by_cases hbig : (100 : Int) < (n0 : Int)
  · have hlv := C.plives_any w TB.out
    have hbl : Below w.heap.size w w := Below.refl _ w
    have HBL := Lib.hid hbl
    clear hbl
    go_wp2_with fail
    refine hlv.mono ?_
    clear hlv
    rintro r w99 ⟨rfl, hb99⟩
    have HB99 := Lib.hid (HBL.out.trans (hb99.mono HBL.out.size))
    clear hb99
    go_wp2_with fail
    go_ret
    exact ⟨rfl, HB99.out⟩
  · have hn : n0 ≤ 100 := by omega
    have hB0 := (Below.refl w.heap.size w).alloc (Nat.le_refl _) (.cells #[.slice none 0 0] 47)
    have hw0 : W.WAt (w.alloc (.cells #[.slice none 0 0] 47)) w.heap.size (.slice none 0 0) [] := ⟨heap_alloc_new w _, World.ownsRow_nil _ _ _ _⟩
    have h1 := W.ints_wr a0 n0 c0 z0 hw0 HL.out (by simp; omega) HZ.out ((HR.out.below hB0).more hB0.size) (fun a ha hl hf => by
      obtain ⟨ad, e, hlt, _⟩ := HR.out 0 (by omega)
      rw [ha] at e
      cases e
      rcases hf with h | h
      · omega
      · simp [Value.ownBlock] at h)
    rw [List.nil_append] at h1
    obtain ⟨D, hD⟩ : ∃ D, W.encU n0 ++ W.encL z0 = D := ⟨_, rfl⟩
    have hDb : H.Byt D := by rw [← hD]; exact enc_byt _ _
    have hDl : D.length ≤ 1010 := by rw [← hD]; exact enc_len hn HL.out HZ.out
    have hDr : W.rL (D, 0) 100 = (([], 0), z0) := by rw [← hD, ← HL.out]; exact read_list HZ.out (by rw [HL.out]; exact hn)
    rw [hD] at h1
    have HD := Lib.hid (And.intro hDb (And.intro hDl hDr))
    have HB0 := Lib.hid hB0
    clear hw0 hB0 hD hDb hDl hDr
    go_wp2_with fail
    refine h1.mono ?_
    clear h1
    rintro r w1 ⟨rfl, v1, hw1, hs1⟩
    have hB1 : Below w.heap.size w w1 := HB0.out.trans (hs1.below HB0.out.size (Nat.le_refl _) (fun k hk => by simp [Value.ownBlock] at hk))
    have h2 := W.done_wr hw1 (by have := HD.out.2.1; omega)
    have HB1 := Lib.hid hB1
    clear hw1 hs1 hB1
    go_wp2_with fail
    refine h2.mono ?_
    clear h2
    rintro r w2 ⟨v2, rfl, ho2, hB2⟩
    obtain ⟨m, hm⟩ : ∃ m, D.length = m := ⟨_, rfl⟩
    rw [hm] at ho2
    have hml : m ≤ 1010 := by rw [← hm]; exact HD.out.2.1
    obtain ⟨A2, k2, rfl⟩ := H.own_shape ho2
    obtain ⟨_, o1, o2, o3, o4⟩ := C.own_cap ho2
    have HB2 := Lib.hid (HB1.out.trans (hB2.mono HB1.out.size))
    have h3 := C.pseal_any A2 m k2 D w2 (TB.out.below hpos HB2.out) hm (by omega) ⟨o1, o2⟩ o3 HD.out.1 (H.own_RdI (n := m) ho2)
    obtain ⟨S, hS⟩ : ∃ S, C.sea D = S := ⟨_, rfl⟩
    obtain ⟨L, hL⟩ : ∃ L, S.length = L := ⟨_, rfl⟩
    have hSl : L = m + 4 := by rw [← hL, ← hS, C.sea_len, hm]
    have hSb : ∀ b ∈ S, b < 256 := by rw [← hS]; exact C.sea_byt HD.out.1
    have hSk : C.reg C.ones S = C.st 32 C.ones := by rw [← hS]; exact C.sea_reg HD.out.1
    have hSi : D ++ C.ints (C.le4 (C.sum (C.nats D))) = C.ints S := by rw [← hS]; exact C.sea_ints HD.out.1
    have hop : C.openR (C.ints S) = (D, 0) := by
      rw [← hSi]
      have hl4 : (C.ints (C.le4 (C.sum (C.nats D)))).length = 4 := by rw [C.ints_len]; exact C.digits_len 4 _
      unfold C.openR
      rw [if_neg (by rw [List.length_append, hl4]; omega)]
      have e : (D ++ C.ints (C.le4 (C.sum (C.nats D)))).length - 4 = D.length := by rw [List.length_append, hl4]; omega
      rw [e, List.take_left, List.drop_left, if_pos rfl]
    rw [hSi] at h3
    have hli : (C.ints S).length = L := by rw [C.ints_len, hL]
    have HS := Lib.hid (And.intro hL (And.intro hSb (And.intro hSk (And.intro hop hli))))
    have hL4 : 4 ≤ L := by omega
    have hLm : L ≤ 1014 := by omega
    have HM := Lib.hid hm
    clear ho2 hB2 o1 o2 o3 o4 hS hL hSl hSb hSk hSi hop hli hm
    go_wp2_with fail
    refine h3.mono ?_
    clear h3
    rintro r w3 ⟨v3, rfl, ho3, hB3⟩
    rw [HS.out.2.2.2.2] at ho3
    obtain ⟨g3, k3, rfl, hg3, hg3'⟩ := H.own_form ho3 (by omega)
    obtain ⟨_, o1, o2, o3, o4⟩ := C.own_cap ho3
    have HB3 := Lib.hid (HB2.out.trans (hB3.mono HB2.out.size))
    have h4 := C.popen_any (some ⟨g3, 0, none⟩) L k3 (C.ints S) w3 (TB.out.below hpos HB3.out) HS.out.2.2.2.2 (by omega) ⟨o1, o2⟩ o3 (C.ints_byt HS.out.2.1) (H.own_RdI (n := L) ho3)
    rw [HS.out.2.2.2.1] at h4
    simp only [HM.out] at h4
    have HO3 := Lib.hid ho3
    have HCP := Lib.hid (And.intro o1 o2)
    have hg3w : w.heap.size ≤ g3 := by have := HB2.out.size; omega
    clear ho3 hB3 o1 o2 o3 o4
    go_wp2_with fail
    refine h4.mono ?_
    clear h4
    rintro r w4 ⟨A4, k4, rfl, hr4, hc4, hm4, hn4, hB4⟩
    have HB4 := Lib.hid (HB3.out.trans (hB4.mono HB3.out.size))
    have HO4 := Lib.hid (H.own_kept_below HO3.out hB4)
    have h5 := W.new_any A4 m k4 D w4 HM.out (by omega) hn4 HD.out.1 hr4
    clear hr4 hc4 hm4 hn4 hB4
    go_wp2_with fail
    refine h5.mono ?_
    clear h5
    rintro r w5 ⟨rb, A5, k5, rfl, hr5, hrb, hA5, hB5⟩
    have HB5 := Lib.hid (HB4.out.trans (hB5.mono HB4.out.size))
    have HO5 := Lib.hid (H.own_kept_below HO4.out hB5)
    have h6 := W.ints_rd (s := (D, 0)) 100 (by decide) (fun _ => by have := HD.out.2.1; simp only; omega) hr5 ⟨rfl, fun _ => rfl⟩
    unfold W.RdPostV at h6
    rw [HD.out.2.2] at h6
    have hg4 : g3 < w4.heap.size := ((C.own_cap HO4.out).2.2.2.2 ⟨g3, 0, none⟩ rfl).2
    clear hB5 hr5
    go_wp2_with fail
    refine h6.mono ?_
    clear h6
    rintro r w6 ⟨v6, rfl, ho6, k', e', hr6, hst6, hV6⟩
    obtain rfl : e' = 0 := hst6.1.symm
    have hst := hst6.2 rfl
    have ho6 : w6.ownsRow w5.heap.size 3 1 v6 n0 (z0.map (Value.int .i64)) := HL.out ▸ ho6
    obtain ⟨A6, k6, rfl⟩ := H.own_shape ho6
    have HB6 := Lib.hid (HB5.out.trans (hV6.below HB5.out.size (fun k hk => by have : k = rb := hk; have := HB4.out.size; omega)))
    have HO6 := Lib.hid (own_aside HO5.out hV6 (fun j hj => by
      have : j = g3 := by simpa [Value.ownBlock] using hj.symm
      show ¬ j = rb
      omega))
    have h7 := W.end_rd (s := ([], 0)) hr6 ⟨rfl, fun _ => hst⟩
    rw [show W.endOf (([], 0) : W.St) = 0 from rfl] at h7
    have HX6 := Lib.hid ho6
    clear ho6 hst6 hV6 hst hr6
    go_wp2_with fail
    refine h7.mono ?_
    clear h7
    rintro r w7' ⟨rfl, m7, hw7⟩
    obtain ⟨w7, hw7'⟩ : ∃ W1, W1 = w7' := ⟨_, rfl⟩
    subst hw7'
    have hb7 : Below w.heap.size w w7 := by rw [hw7]; exact below_drewN HB6.out m7
    have ho7 : w7.ownsRow w2.heap.size 5 1 (.slice (some ⟨g3, 0, none⟩) L k3) L ((C.ints S).map (Value.int .u8)) := by rw [hw7]; exact HO6.out
    have hx7 : w7.ownsRow w5.heap.size 3 1 (.slice A6 n0 k6) n0 (z0.map (Value.int .i64)) := by rw [hw7]; exact HX6.out
    have HB7 := Lib.hid hb7
    have HO7 := Lib.hid ho7
    have HX7 := Lib.hid (H.own_RdI (HL.out ▸ hx7 : w7.ownsRow w5.heap.size 3 1 (.slice A6 z0.length k6) z0.length (z0.map (Value.int .i64))))
    clear hw7 hb7 ho7 hx7
    have hne : ((n0 : Int) != (n0 : Int)) = false := by simp
    go_wp2_with fail
    go_loopw [13] (fun i wr => ∃ k : Nat, k ≤ n0 ∧ i = .int .i64 k ∧ Below w7.heap.size w7 wr) (fun i _ => n0 - (intOf i).toNat)
    case atStart => exact ⟨0, Nat.zero_le _, rfl, Below.refl _ _⟩
    case round =>
      obtain ⟨k, hk, rfl, hBk⟩ := hrel
      by_cases hlt : k < n0
      · obtain ⟨xd, rfl, _, hx⟩ := (HX7.out.below hBk) k (by rw [HL.out]; exact hlt)
        obtain ⟨yd, rfl, _, hy⟩ := (HR.out.below (HB7.out.trans (hBk.mono HB7.out.size))) k (by rw [HL.out]; exact hlt)
        generalize z0[k]?.getD 0 = zz at hx hy
        have hk0 : (0 : Int) ≤ (k : Int) := by omega
        have hk1 : (k : Int) < (n0 : Int) := by omega
        have hzz : (zz != zz) = false := by simp
        go_wp2_with fail
        go_quiet (fail)
        go_wp2_with fail
        go_roundw
        case rel => exact ⟨k + 1, by omega, by go_num, below_drewN hBk _⟩
        case measure => simp [intOf]; omega
      · have HBk := Lib.hid hBk
        have hsz7 := hBk.size
        obtain ⟨w8, hw8⟩ : ∃ W1, W1 = wr := ⟨_, rfl⟩
        subst hw8
        have HB8 := Lib.hid (HB7.out.trans (hBk.mono HB7.out.size))
        have HO8 := Lib.hid (H.own_kept_below HO7.out hBk)
        clear hBk
        by_cases hy0 : y = 0
        · have hyb : ((y : Int) == 0) = true := by simp; omega
          clear hy0
          have hlv := C.plives_any w8 (TB.out.below hpos HB8.out)
          have hbl : Below w.heap.size w w8 := HB8.out
          have HBL := Lib.hid hbl
          clear hbl
          go_wp2_with fail
          refine hlv.mono ?_
          clear hlv
          rintro r w99 ⟨rfl, hb99⟩
          have HB99 := Lib.hid (HBL.out.trans (hb99.mono HBL.out.size))
          clear hb99
          go_wp2_with fail
          go_ret
          exact ⟨rfl, HB99.out⟩
        · have hyb : ((y : Int) == 0) = false := by simp; omega
          obtain ⟨p, hp⟩ : ∃ p, i1 % L = p := ⟨_, rfl⟩
          have hpL : p < L := by rw [← hp]; exact Nat.mod_lt _ (by omega)
          have ep : (i1 : Int) % (L : Int) = (p : Int) := by rw [← hp]; push_cast; rfl
          have hz8 : ¬ ((L : Int) = 0) := by omega
          have qa : (0 : Int) ≤ (i1 : Int) ∧ (i1 : Int) < 65536 := Q.out.1
          have hz9 : ¬ (L = 0) := by omega
          have hp0 : (0 : Int) ≤ (p : Int) := by omega
          have hp1 : (p : Int) < (L : Int) := by omega
          obtain ⟨b, hb, hb', hbl⟩ := C.byt_nat (C.ints_byt HS.out.2.1) HS.out.2.2.2.2 hpL
          have hc : w8.cell? ⟨g3, p, none⟩ = some (.int .u8 b) := by
            rw [HO8.out.cellAt p (by omega), List.getElem?_map, hb]
            rfl
          have hf := HO8.out.frozenAt p
          have hcA : w8.cell? ((⟨g3, 0, none⟩ : Addr).add p) = some (.int .u8 b) := by rw [show (⟨g3, 0, none⟩ : Addr).add p = ⟨g3, p, none⟩ from by unfold Addr.add; split <;> simp_all]; exact hc
          have hfA : w8.frozen? ((⟨g3, 0, none⟩ : Addr).add p) = false := by rw [show (⟨g3, 0, none⟩ : Addr).add p = ⟨g3, p, none⟩ from by unfold Addr.add; split <;> simp_all]; exact hf
          have hst := (HO8.out.stored p (.int .u8 ((b ^^^ y : Nat) : Int))).1
          have hxo := u8_xor_nat b y hbl (by have := Q.out.2; omega)
          have hbS : S[p]?.getD 0 = b := by
            have h := hb
            unfold C.ints at h
            rw [List.getElem?_map] at h
            cases hs : S[p]? with
            | none => rw [hs] at h; cases h
            | some s => rw [hs] at h; simp at h; simp; omega
          obtain ⟨E2, hE2⟩ : ∃ E2, C.ints (C.chg S (2 ^ (8 * p) * y)) = E2 := ⟨_, rfl⟩
          have hset : (C.ints S).set p ((b ^^^ y : Nat) : Int) = E2 := by
            rw [← hE2, ← C.set_chg (by rw [HS.out.1]; exact hpL) (by have := Q.out.2; omega), hbS]
            unfold C.ints
            rw [List.map_set]
          have hli : E2.length = L := by rw [← hE2, C.ints_len, C.chg_len, HS.out.1]
          have hby : H.Byt E2 := by rw [← hE2]; exact C.ints_byt (C.chg_byt HS.out.2.1 _)
          have hcode : (C.openR E2).2 = 8 := by
            have hy256 : y < 256 := by have := Q.out.2; omega
            have hlt2 : 2 ^ (8 * p) * y < 256 ^ S.length := by
              rw [C.pow256, HS.out.1]
              have h6 : 2 ^ (8 * p) * y < 2 ^ (8 * p) * 2 ^ 8 := Nat.mul_lt_mul_of_pos_left hy256 (Nat.two_pow_pos _)
              rw [← Nat.pow_add] at h6
              exact Nat.lt_of_lt_of_le h6 (Nat.pow_le_pow_right (by decide) (by omega))
            have h := C.code_chg HS.out.2.1 HS.out.2.2.1 (by rw [HS.out.1]; exact hL4) hlt2
            rw [hE2, if_neg (C.burst_ne (by omega) hy0 (by rw [HS.out.1]; omega))] at h
            exact h
          rw [← List.map_set, hset] at hst
          have HST := Lib.hid hst
          have HE2 := Lib.hid (And.intro hli (And.intro hby hcode))
          have HBW := Lib.hid (HB8.out.setCell (p := ⟨g3, p, none⟩) hg3w (.int .u8 ((b ^^^ y : Nat) : Int)))
          clear hst hset hli hby hcode hbS hb hb' hp hy0
          generalize hbx : ((b ^^^ y : Nat) : Int) = bx at *
          clear hbx
          go_upto_region 22 with fail
          have hB9 := HBW.out
          have hO9 := HST.out
          obtain ⟨w9, hw9⟩ : ∃ W1, W1 = w8.setCell ⟨g3, p, none⟩ (.int .u8 bx) := ⟨_, rfl⟩
          rw [← hw9] at hB9 hO9 ⊢
          have HB9 := Lib.hid hB9
          have h10 := C.popen_any (some ⟨g3, 0, none⟩) L k3 E2 w9 (TB.out.below hpos hB9) HE2.out.1 (by omega) HCP.out (fun h => by cases h) HE2.out.2.1 (H.own_RdI (n := L) hO9)
          rw [HE2.out.2.2] at h10
          clear hB9 hO9 hw9 hc hf hcA hfA
          go_wp2_with fail
          refine h10.mono ?_
          clear h10
          rintro r w10 ⟨A10, k10, rfl, _, _, _, _, hb10⟩
          have HB10 := Lib.hid (HB9.out.trans (hb10.mono HB9.out.size))
          clear hb10
          have hlv := C.plives_any w10 (TB.out.below hpos HB10.out)
          have hbl : Below w.heap.size w w10 := HB10.out
          have HBL := Lib.hid hbl
          clear hbl
          go_wp2_with fail
          refine hlv.mono ?_
          clear hlv
          rintro r w99 ⟨rfl, hb99⟩
          have HB99 := Lib.hid (HBL.out.trans (hb99.mono HBL.out.size))
          clear hb99
          go_wp2_with fail
          go_ret
          exact ⟨rfl, HB99.out⟩

theorem reads (os : Os) {H0 : Type} (enc : TypeId × Value → H0) : ∃ places, DataW.whole enc Tryd.prog ((Go.Proofs.YtpkhbglmbdpodaaDoor.C.laidWorld os).forCall (fun _ _ => 0) ⟨#[], #[.slice none 0 0, .int .u16 0, .int .u8 0], []⟩).memory Tryd.f12.params.toList Rows.crcWireSpec.vars false (#[.slice none 0 0, .int .u16 0, .int .u8 0] : Array Value).toList 8 = some ([.nil, .lit (.int .u16 0), .lit (.int .u8 0)], [], places) :=
  ⟨[], by kernel_rfl⟩
set_option maxRecDepth 100000 in
theorem lifted (os : Os) (started : os.Started) (H0 : Type) (enc : TypeId × Value → H0) (F0 : Stop.Interp) :
    ReturnsInHanded {} Tryd.checked os 12 .any ((OpenSpec.ofChange Rows.crcWireSpec).preRow enc Tryd.prog Tryd.f12 Rows.crcWireRow.domain false Rows.crcWireRow.laid) (((OpenSpec.ofChange Rows.crcWireSpec).at F0).post enc Tryd.prog Tryd.f12 false true false false) := by
  obtain ⟨places, hx⟩ := reads os enc
  refine returnsInHanded_of_row (C := Tryd.checked) (s := (OpenSpec.ofChange Rows.crcWireSpec)) Go.Proofs.YtpkhbglmbdpodaaDoor.O.own started (by kernel_rfl) Tryd.func12
    (witness_row_at (enc := enc) (C := Tryd.checked) false (Go.Proofs.YtpkhbglmbdpodaaDoor.C.laidWorld os) #[.slice none 0 0, .int .u16 0, .int .u8 0] rfl (by kernel_rfl) (by kernel_rfl) (by kernel_rfl)
      (OpenSpec.preRow_of_cond 8 hx (by kernel_rfl) (fun k hk => by cases hk) (by kernel_rfl) (Go.Proofs.YtpkhbglmbdpodaaDoor.C.laid_met os _))) ?_
  intro W base args ds gs before hval0 hW _ hk0 hsz0 hL _ _
  have hsz : (DataW.weightsEach Tryd.prog (Tryd.f12.params.toList ++ (OpenSpec.ofChange Rows.crcWireSpec).bare.plain.varTypes Tryd.prog) (ds ++ gs)).all (· ≤ reachBytes) = true := hsz0
  clear hsz0
  have hval : ∀ (j : Nat) t v, Tryd.f12.params[j]? = some t → args[j]? = some v → Value.okWide Tryd.prog W .any base t v := hval0
  have hW' := hW
  obtain ⟨p, q, hA0, hV, rfl, hfz, hnd⟩ := hW
  have hA : DataW.TrodAll enc Tryd.prog W 0 (fun _ => true) true Tryd.f12.params.toList args.toList ds p := hA0
  rw [Tryd.params12] at hA hval hsz
  obtain ⟨v0, vs0, d0, ds0, p0, q0, hargs, rfl, rfl, h0, r0⟩ := trodAll_cons hA
  obtain ⟨v1, vs1, d1, ds1, p1, q1, rfl, rfl, rfl, h1, r1⟩ := trodAll_cons r0
  obtain ⟨v2, vs2, d2, ds2, p2, q2, rfl, rfl, rfl, h2, r2⟩ := trodAll_cons r1
  obtain ⟨rfl, rfl, rfl⟩ := trodAll_nil r2
  obtain rfl : args = #[v0, v1, v2] := by cases args; simp_all
  obtain ⟨rfl, rfl⟩ := trodVars_none hV
  obtain ⟨a0, n0, c0, rfl⟩ := okWide_slice Tryd.underlying43 (hval 0 43 v0 rfl rfl)
  have k0 := h0
  have lt0 : ∀ x ∈ p0, x.block < W.heap.size := by obtain ⟨m, hm⟩ := k0; exact DataW.trod_lt m _ _ _ hm
  obtain ⟨z0, l0, cp0, cq0, nz0, rd0, wf0, bj0⟩ := Go.Proofs.YtpkhbglmbdpodaaDoor.O.open_isT Tryd.underlying43 Tryd.underlying3 (by kernel_rfl) h0
  have el0 := Go.Proofs.YtpkhbglmbdpodaaDoor.O.open_el Tryd.underlying43 Tryd.underlying3 (by kernel_rfl) k0
  obtain ⟨a1, rfl, rfl, rfl, w1⟩ := open_int Tryd.underlying37 (hval 1 37 v1 rfl rfl) h1
  obtain ⟨a2, rfl, rfl, rfl, w2⟩ := open_int Tryd.underlying5 (hval 2 5 v2 rfl rfl) h2
  clear hA0 hval0
  have r0 : z0.length * 8 ≤ 140737488351232 := by
    rcases el0 with h | ⟨es, sp, h, hle⟩
    · omega
    · have hr := sized_slice hsz (j := 0) (t := 43) (e := 3) (elems := es) (spare := sp) rfl (by simp [h]) Tryd.underlying43
      rw [show Tryd.prog.bytesOf 3 = 8 from by kernel_rfl] at hr
      simp only [reachBytes] at hr
      omega
  have tb := Go.Proofs.YtpkhbglmbdpodaaDoor.C.tab_of_laid hL
  refine (walk a0 n0 c0 z0 a1 a2 W tb l0 ⟨cp0, cq0⟩ nz0 rd0 wf0 r0 w1 w2).mono fun e W' ⟨he, bel⟩ => ?_
  subst he
  exact ⟨_, rfl, _, _, _, [], _, [], hW', trodAll_mk1 (shut_bool Tryd.underlying4 _), (trodAll_cons_mk (Below.trod Go.Proofs.YtpkhbglmbdpodaaDoor.O.laidOut (by kernel_rfl) (of_decide_eq_true (by kernel_rfl)) k0 bel lt0) (trodAll_cons_mk (shut_int Tryd.underlying37 w1) (trodAll_cons_mk (shut_int Tryd.underlying5 w2) trodAll_mk0))), rfl, bel.frame _, fun h => by cases h⟩

theorem said : Rows.CrcWireSaid :=
  OpenClaim.holds_of_cond 12 Tryd.f12 rfl rfl rfl rfl rfl rfl rfl ⟨rfl, rfl, rfl, rfl, rfl⟩ rfl rfl rfl rfl rfl (by kernel_rfl) Tryd.func12 (by kernel_rfl)
    (of_decide_eq_true (by kernel_rfl)) (by unfold Func.isWrapper; first | (rw [if_pos (by decide +kernel)]; kernel_rfl) | (rw [if_neg (by decide +kernel)]; exact ⟨rfl, rfl⟩))
    (fun os started H0 enc _ F0 => by rw [OpenClaim.pre_eq_preRow]; exact lifted os started H0 enc F0)
theorem plain (f : FuncId) (fn : Func) (hf : Tryd.pinned.checked.prog.funcNamed "perigee/perigeelaw03.CrcWire" = some f) (hfn : Tryd.pinned.checked.prog.funcs[f]? = some fn) :
    false = Tryd.pinned.checked.prog.looks [] ∧ ∀ (j : Nat) t, fn.params[j]? = some t → Tryd.pinned.checked.prog.wantsStandIn t = false := by
  obtain rfl : f = 12 := Option.some.inj ((show Tryd.prog.funcNamed "perigee/perigeelaw03.CrcWire" = some 12 by kernel_rfl).symm.trans hf) |>.symm
  obtain rfl : fn = Tryd.f12 := (Option.some.inj (Tryd.func12.symm.trans hfn)).symm
  refine ⟨by kernel_rfl, fun j t ht => ?_⟩
  rw [Tryd.params12] at ht
  have hm : t ∈ [43, 37, 5] := by simpa using Array.mem_of_getElem? ht
  have hall : ([43, 37, 5].all fun u => !Tryd.prog.wantsStandIn u) = true := by kernel_rfl
  exact (show Tryd.prog.wantsStandIn t = false by simpa using List.all_eq_true.1 hall t hm)
/-- ████ THE CARD ████ -/
theorem proved : Rows.CrcWireCardSaid :=
  Claim7.holds_tied_plain_at .later [] _ _ _ _ said (fun _ h => by cases h) (by kernel_rfl) (fun _ h => by cases h) crcWire_row_tie rfl ⟨rfl, rfl⟩ (by kernel_rfl) rfl plain (by kernel_rfl)
end Go.Proofs.YtpkhbglmbdpodaaDoor.crcWire
