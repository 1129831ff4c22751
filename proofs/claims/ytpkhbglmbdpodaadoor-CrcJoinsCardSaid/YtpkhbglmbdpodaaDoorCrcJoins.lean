/-
  For all three byte slices of at most 1000 bytes, CrcJoins returns true: the checksum of their concatenation is that of Update, and of Combine in either grouping.
-/
import Derived.Test.YtpkhbglmbdpodaaDoorCProg
import Derived.Deep.DeepCutAuto
import Derived.Deep.RegionHeld3
import Derived.Deep.LoopGhost
import Derived.Deep.QuietTactic
import Derived.Test.YtpkhbglmbdpodaaDoorApp
namespace Go.Proofs.YtpkhbglmbdpodaaDoor.crcJoins
open Go.ChangeShapes Go.WideShapes Go.ChangeAt Go.RowKit
open Go.ChangeMaps (open_string shut_string)
set_option linter.unusedVariables false
open H in
/-- Appending a slice to a slice of the call's own. -/
theorem nil_of {w : World} {B n c : Nat} {A : Option Addr} {bs : List Int} (hA : A = none) (hl : bs.length = n) (hn : A = none → c = 0) (hr : RdI w B .u8 A bs) : bs = [] ∧ n = 0 ∧ c = 0 := by
  subst hA
  rcases bs with _ | ⟨z, zs⟩
  · exact ⟨rfl, hl.symm, hn rfl⟩
  · obtain ⟨_, e, _⟩ := hr 0 (by simp)
    cases e
theorem joins {x y z : List Int} (hx : H.Byt x) (hy : H.Byt y) (hz : H.Byt z) : C.comb (C.sum (C.nats x)) (C.sum (C.nats y)) y.length = C.sum (C.nats (x ++ y)) ∧
    C.comb (C.sum (C.nats (x ++ y))) (C.sum (C.nats z)) z.length = C.sum (C.nats (x ++ y ++ z)) ∧ C.comb (C.sum (C.nats y)) (C.sum (C.nats z)) z.length = C.sum (C.nats (y ++ z)) ∧
    C.comb (C.sum (C.nats x)) (C.sum (C.nats (y ++ z))) (y.length + z.length) = C.sum (C.nats (x ++ y ++ z)) ∧
    C.upd (C.sum (C.nats x)) (C.nats y) = C.sum (C.nats (x ++ y)) ∧ C.upd (C.sum (C.nats (x ++ y))) (C.nats z) = C.sum (C.nats (x ++ y ++ z)) := by
  have k := fun l (h : H.Byt l) => C.nats_byt h
  refine ⟨?_, ?_, ?_, ?_, ?_, ?_⟩
  · rw [C.nats_append, C.comb_eq _ _ (k x hx) (k y hy), C.nats_len]
  · rw [C.nats_append (x ++ y) z, C.comb_eq _ _ (k _ (C.byt_append hx hy)) (k z hz), C.nats_len]
  · rw [C.nats_append, C.comb_eq _ _ (k y hy) (k z hz), C.nats_len]
  · rw [List.append_assoc, C.nats_append x (y ++ z), C.comb_eq _ _ (k x hx) (k _ (C.byt_append hy hz)), C.nats_len, List.length_append]
  · rw [C.nats_append, C.upd_sum _ _ (k x hx)]
  · rw [C.nats_append (x ++ y) z, C.upd_sum _ _ (k _ (C.byt_append hx hy))]

set_option maxRecDepth 100000 in
set_option maxHeartbeats 1000000 in
theorem walk (a0 : Option Addr) (n0 c0 : Nat) (z0 : List Int) (a1 : Option Addr) (n1 c1 : Nat) (z1 : List Int) (a2 : Option Addr) (n2 c2 : Nat) (z2 : List Int) (w : World) (tb : C.Tab w) (l0 : z0.length = n0) (cp0 : n0 ≤ c0 ∧ c0 ≤ maxLen) (nz0 : a0 = none → c0 = 0) (rd0 : H.RdI w w.heap.size .u8 a0 z0) (wf0 : ∀ n ∈ z0, (Lit.int .u8 n).wf = true) (r0 : z0.length * 1 ≤ 140737488351232) (l1 : z1.length = n1) (cp1 : n1 ≤ c1 ∧ c1 ≤ maxLen) (nz1 : a1 = none → c1 = 0) (rd1 : H.RdI w w.heap.size .u8 a1 z1) (wf1 : ∀ n ∈ z1, (Lit.int .u8 n).wf = true) (r1 : z1.length * 1 ≤ 140737488351232) (l2 : z2.length = n2) (cp2 : n2 ≤ c2 ∧ c2 ≤ maxLen) (nz2 : a2 = none → c2 = 0) (rd2 : H.RdI w w.heap.size .u8 a2 z2) (wf2 : ∀ n ∈ z2, (Lit.int .u8 n).wf = true) (r2 : z2.length * 1 ≤ 140737488351232) :
    Calls Tryd.prog 10 #[.slice a0 n0 c0, .slice a1 n1 c1, .slice a2 n2 c2] w fun e w' => e = .returned (.bool true) ∧ Below w.heap.size w w' := by
  have b0 := H.u8_byt wf0
  have b1 := H.u8_byt wf1
  have b2 := H.u8_byt wf2
  have hj := joins b0 b1 b2
  rw [l1, l2] at hj
  obtain ⟨i0, hi, hz0, hz1, hz2⟩ := info_parts C.infoB
  have TB := Lib.hid tb
  have L := Lib.hid (And.intro l0 (And.intro l1 l2))
  have BB := Lib.hid (And.intro b0 (And.intro b1 b2))
  have RR := Lib.hid (And.intro rd0 (And.intro rd1 rd2))
  have NN := Lib.hid (And.intro nz0 (And.intro nz1 nz2))
  have HJ := Lib.hid hj
  have hpos := tb.pos
  clear wf0 wf1 wf2 tb b0 b1 b2 l0 l1 l2 rd0 rd1 rd2 nz0 nz1 nz2 cp0 cp1 cp2 r0 r1 r2 hj
  go_enter Tryd.func10, Tryd.ntmps10
  have key : ∀ (Q : Prop), ((1000 : Int) < (n0 : Int) → Q) → (¬ (1000 : Int) < (n0 : Int) → (1000 : Int) < (n1 : Int) → Q) → (¬ (1000 : Int) < (n0 : Int) → ¬ (1000 : Int) < (n1 : Int) → (1000 : Int) < (n2 : Int) → Q) → (¬ (1000 : Int) < (n0 : Int) → ¬ (1000 : Int) < (n1 : Int) → ¬ (1000 : Int) < (n2 : Int) → Q) → Q := fun Q h1 h2 h3 h4 => by
    by_cases k1 : (1000 : Int) < (n0 : Int)
    · exact h1 k1
    · by_cases k2 : (1000 : Int) < (n1 : Int)
      · exact h2 k1 k2
      · by_cases k3 : (1000 : Int) < (n2 : Int)
        · exact h3 k1 k2 k3
        · exact h4 k1 k2 k3
  refine key _ (fun k1 => ?_) (fun k1 k2 => ?_) (fun k1 k2 k3 => ?_) (fun k1 k2 k3 => ?_)
  · clear key
    have hlv := C.plives_any w TB.out
    have hbl : Below w.heap.size w w := Below.refl _ w
    have HBL := Lib.hid hbl
    clear hbl
    go_wp2_with fail
    refine hlv.mono ?_
    clear hlv
    rintro r w99 ⟨rfl, hb99⟩
    have HB99 := Lib.hid (HBL.out.trans (hb99.mono HBL.out.size))
    clear hb99
    go_wp2_with fail
    go_ret
    exact ⟨rfl, HB99.out⟩
  · clear key
    have hlv := C.plives_any w TB.out
    have hbl : Below w.heap.size w w := Below.refl _ w
    have HBL := Lib.hid hbl
    clear hbl
    go_wp2_with fail
    refine hlv.mono ?_
    clear hlv
    rintro r w99 ⟨rfl, hb99⟩
    have HB99 := Lib.hid (HBL.out.trans (hb99.mono HBL.out.size))
    clear hb99
    go_wp2_with fail
    go_ret
    exact ⟨rfl, HB99.out⟩
  · clear key
    have hlv := C.plives_any w TB.out
    have hbl : Below w.heap.size w w := Below.refl _ w
    have HBL := Lib.hid hbl
    clear hbl
    go_wp2_with fail
    refine hlv.mono ?_
    clear hlv
    rintro r w99 ⟨rfl, hb99⟩
    have HB99 := Lib.hid (HBL.out.trans (hb99.mono HBL.out.size))
    clear hb99
    go_wp2_with fail
    go_ret
    exact ⟨rfl, HB99.out⟩
  · clear key
    have m0 : n0 ≤ 1000 := by omega
    have m1 : n1 ≤ 1000 := by omega
    have m2 : n2 ≤ 1000 := by omega
    go_upto_region 3 with fail
    go_cut [7] (fun sx wc => wc.ownsRow w.heap.size 5 1 sx (n0 + n1) ((z0 ++ z1).map (Value.int .u8)) ∧ Below w.heap.size w wc)
    case first =>
      have hB := (Below.refl w.heap.size w).alloc (Nat.le_refl _) (.cells #[] 5)
      have hown : (w.alloc (.cells #[] 5)).ownsRow w.heap.size 5 1 (.slice (some ⟨w.heap.size, 0, none⟩) 0 0) 0 [] := World.ownsRow_made w #[] 0 (Nat.le_refl _) (by decide) (by simp)
      have HO := Lib.hid hown
      have HB := Lib.hid hB
      clear hown hB
      go_wp2_with (at_builtin; first | (refine H.wpList_append_ints rfl _ _ 22 rfl w.heap.size 5 i0 .u8 1 Tryd.underlying22 hi hz0 hz1 hz2 _ _ _ rfl HO1.out a1 n1 c1 _ z1 rfl L.out.2.1 NN.out.2.1 (RR.out.2.1.below HBO1.out) (by unfold maxLen; omega) (by omega) (by have := HBO1.out.size; omega) ?_; intro v_O2 w_O2 ho_O2 hb_O2; have HO2 := Lib.hid ho_O2; have HBO2 := Lib.hid (HBO1.out.trans hb_O2); clear ho_O2 hb_O2) | (refine H.wpList_append_ints rfl _ _ 22 rfl w.heap.size 5 i0 .u8 1 Tryd.underlying22 hi hz0 hz1 hz2 _ _ _ rfl HO.out a0 n0 c0 _ z0 rfl L.out.1 NN.out.1 (RR.out.1.below HB.out) (by unfold maxLen; omega) (by omega) (by simp) ?_; intro v_O1 w_O1 ho_O1 hb_O1; have HO1 := Lib.hid ho_O1; have HBO1 := Lib.hid (HB.out.trans hb_O1); clear ho_O1 hb_O1))
      go_meet
      refine ⟨?_, HBO2.out⟩
      have h := HO2.out
      rw [List.nil_append, ← List.map_append, Nat.zero_add] at h
      exact h
    case rest =>
      obtain ⟨ho1, hB1⟩ := hcut
      obtain ⟨w1, hw1⟩ : ∃ w1, w1 = wc := ⟨_, rfl⟩
      subst hw1
      obtain ⟨A7, q7, rfl⟩ := H.own_shape ho1
      obtain ⟨_, o1, o2, o3, o4⟩ := C.own_cap (show w1.ownsRow w.heap.size 5 1 (.slice A7 (n0 + n1) q7) (n0 + n1) ((z0 ++ z1).map (Value.int .u8)) from ho1)
      have H7 := Lib.hid ho1
      have HN7 := Lib.hid o3
      have HL7 := Lib.hid (show (z0 ++ z1).length = n0 + n1 by rw [List.length_append, L.out.1, L.out.2.1])
      have HB1 := Lib.hid hB1
      clear ho1 hB1 o1 o2 o3 o4
      go_upto_region 4 with fail
      go_cut [8] (fun sx wc => wc.ownsRow w1.heap.size 5 1 sx (n0 + n1 + n2) ((z0 ++ z1 ++ z2).map (Value.int .u8)) ∧ Below w1.heap.size w1 wc)
      case first =>
        have hB := (Below.refl w1.heap.size w1).alloc (Nat.le_refl _) (.cells #[] 5)
        have hown : (w1.alloc (.cells #[] 5)).ownsRow w1.heap.size 5 1 (.slice (some ⟨w1.heap.size, 0, none⟩) 0 0) 0 [] := World.ownsRow_made w1 #[] 0 (Nat.le_refl _) (by decide) (by simp)
        have HO := Lib.hid hown
        have HB := Lib.hid hB
        clear hown hB
        go_wp2_with (at_builtin; first | (refine H.wpList_append_ints rfl _ _ 22 rfl w1.heap.size 5 i0 .u8 1 Tryd.underlying22 hi hz0 hz1 hz2 _ _ _ rfl HO1.out a2 n2 c2 _ z2 rfl L.out.2.2 NN.out.2.2 ((RR.out.2.2.below (HB1.out.trans (HBO1.out.mono HB1.out.size)))) (by unfold maxLen; omega) (by omega) (by have := HBO1.out.size; omega) ?_; intro v_O2 w_O2 ho_O2 hb_O2; have HO2 := Lib.hid ho_O2; have HBO2 := Lib.hid (HBO1.out.trans hb_O2); clear ho_O2 hb_O2) | (refine H.wpList_append_ints rfl _ _ 22 rfl w1.heap.size 5 i0 .u8 1 Tryd.underlying22 hi hz0 hz1 hz2 _ _ _ rfl HO.out A7 (n0 + n1) q7 _ (z0 ++ z1) rfl HL7.out HN7.out ((H.own_RdI (n := n0 + n1) H7.out).below HB.out) (by unfold maxLen; omega) (by omega) (by simp) ?_; intro v_O1 w_O1 ho_O1 hb_O1; have HO1 := Lib.hid ho_O1; have HBO1 := Lib.hid (HB.out.trans hb_O1); clear ho_O1 hb_O1))
        go_meet
        refine ⟨?_, HBO2.out⟩
        have h := HO2.out
        rw [List.nil_append, ← List.map_append, Nat.zero_add] at h
        exact h
      case rest =>
        obtain ⟨ho2, hB2⟩ := hcut
        obtain ⟨w2, hw2⟩ : ∃ w2, w2 = wc := ⟨_, rfl⟩
        subst hw2
        obtain ⟨A8, q8, rfl⟩ := H.own_shape ho2
        have H8 := Lib.hid ho2
        have HL8 := Lib.hid (show (z0 ++ z1 ++ z2).length = n0 + n1 + n2 by rw [List.length_append, HL7.out, L.out.2.2])
        have HB2 := Lib.hid (HB1.out.trans (hB2.mono HB1.out.size))
        have hrd8 : H.RdI w2 w2.heap.size .u8 A8 (z0 ++ z1 ++ z2) := H.own_RdI (n := n0 + n1 + n2) ho2
        have H8R : ∀ W1 : World, Below w2.heap.size w2 W1 → H.RdI W1 W1.heap.size .u8 A8 (z0 ++ z1 ++ z2) := fun W1 h => (hrd8.below h).more h.size
        have H8R' := Lib.hid H8R
        have HD2 := Lib.hid (Below.refl w2.heap.size w2)
        clear H8R hrd8
        have hj := HJ.out
        have hlt := fun l => C.sum_lt (C.nats l)
        obtain ⟨x, hx⟩ : ∃ x, C.sum (C.nats z0) = x := ⟨_, rfl⟩
        obtain ⟨y, hy⟩ : ∃ x, C.sum (C.nats z1) = x := ⟨_, rfl⟩
        obtain ⟨z, hz⟩ : ∃ x, C.sum (C.nats z2) = x := ⟨_, rfl⟩
        obtain ⟨xy, hxy⟩ : ∃ x, C.sum (C.nats (z0 ++ z1)) = x := ⟨_, rfl⟩
        obtain ⟨yz, hyz⟩ : ∃ x, C.sum (C.nats (z1 ++ z2)) = x := ⟨_, rfl⟩
        obtain ⟨u, hu⟩ : ∃ x, C.sum (C.nats (z0 ++ z1 ++ z2)) = x := ⟨_, rfl⟩
        have hlts : x < 4294967296 ∧ y < 4294967296 ∧ z < 4294967296 ∧ xy < 4294967296 ∧ yz < 4294967296 ∧ u < 4294967296 := ⟨hx ▸ hlt z0, hy ▸ hlt z1, hz ▸ hlt z2, hxy ▸ hlt _, hyz ▸ hlt _, hu ▸ hlt _⟩
        rw [hx, hy, hz, hxy, hyz, hu] at hj
        have HJ2 := Lib.hid hj
        have LT := Lib.hid hlts
        have HSU := Lib.hid (And.intro hx (And.intro hy (And.intro hz hu)))
        clear ho2 hB2 hj hlt hlts hx hy hz hxy hyz hu
        have h3 := C.psum_any a0 n0 c0 z0 w2 (TB.out.below hpos HB2.out) L.out.1 (by omega) BB.out.1 ((RR.out.1.below HB2.out).more HB2.out.size)
        rw [HSU.out.1] at h3
        go_wp2_with fail
        refine h3.mono ?_
        clear h3
        rintro r w3 ⟨rfl, hb3⟩
        have HB3 := Lib.hid (HB2.out.trans (hb3.mono HB2.out.size))
        have HD3 := Lib.hid (HD2.out.trans (hb3.mono HD2.out.size))
        clear hb3
        have h4 := C.psum_any a1 n1 c1 z1 w3 (TB.out.below hpos HB3.out) L.out.2.1 (by omega) BB.out.2.1 ((RR.out.2.1.below HB3.out).more HB3.out.size)
        rw [HSU.out.2.1] at h4
        go_wp2_with fail
        refine h4.mono ?_
        clear h4
        rintro r w4 ⟨rfl, hb4⟩
        have HB4 := Lib.hid (HB3.out.trans (hb4.mono HB3.out.size))
        have HD4 := Lib.hid (HD3.out.trans (hb4.mono HD3.out.size))
        clear hb4
        have h5 := C.psum_any a2 n2 c2 z2 w4 (TB.out.below hpos HB4.out) L.out.2.2 (by omega) BB.out.2.2 ((RR.out.2.2.below HB4.out).more HB4.out.size)
        rw [HSU.out.2.2.1] at h5
        go_wp2_with fail
        refine h5.mono ?_
        clear h5
        rintro r w5 ⟨rfl, hb5⟩
        have HB5 := Lib.hid (HB4.out.trans (hb5.mono HB4.out.size))
        have HD5 := Lib.hid (HD4.out.trans (hb5.mono HD4.out.size))
        clear hb5
        have h6 := C.pcomb_any x y (n1 : Int) w5 (TB.out.below hpos HB5.out) LT.out.1 LT.out.2.1 (by omega)
        rw [show (n1 : Int).toNat = n1 from by omega, HJ2.out.1] at h6
        go_wp2_with fail
        refine h6.mono ?_
        clear h6
        rintro r w6 ⟨rfl, hb6⟩
        have HB6 := Lib.hid (HB5.out.trans (hb6.mono HB5.out.size))
        have HD6 := Lib.hid (HD5.out.trans (hb6.mono HD5.out.size))
        clear hb6
        have h7 := C.pcomb_any xy z (n2 : Int) w6 (TB.out.below hpos HB6.out) LT.out.2.2.2.1 LT.out.2.2.1 (by omega)
        rw [show (n2 : Int).toNat = n2 from by omega, HJ2.out.2.1] at h7
        go_wp2_with fail
        refine h7.mono ?_
        clear h7
        rintro r w7 ⟨rfl, hb7⟩
        have HB7 := Lib.hid (HB6.out.trans (hb7.mono HB6.out.size))
        have HD7 := Lib.hid (HD6.out.trans (hb7.mono HD6.out.size))
        clear hb7
        have h8 := C.pcomb_any y z (n2 : Int) w7 (TB.out.below hpos HB7.out) LT.out.2.1 LT.out.2.2.1 (by omega)
        rw [show (n2 : Int).toNat = n2 from by omega, HJ2.out.2.2.1] at h8
        go_wp2_with fail
        refine h8.mono ?_
        clear h8
        rintro r w8 ⟨rfl, hb8⟩
        have HB8 := Lib.hid (HB7.out.trans (hb8.mono HB7.out.size))
        have HD8 := Lib.hid (HD7.out.trans (hb8.mono HD7.out.size))
        clear hb8
        have h9 := C.pcomb_any x yz ((n1 : Int) + (n2 : Int)) w8 (TB.out.below hpos HB8.out) LT.out.1 LT.out.2.2.2.2.1 (by omega)
        rw [show ((n1 : Int) + (n2 : Int)).toNat = n1 + n2 from by omega, HJ2.out.2.2.2.1] at h9
        go_wp2_with fail
        refine h9.mono ?_
        clear h9
        rintro r w9 ⟨rfl, hb9⟩
        have HB9 := Lib.hid (HB8.out.trans (hb9.mono HB8.out.size))
        have HD9 := Lib.hid (HD8.out.trans (hb9.mono HD8.out.size))
        clear hb9
        have h10 := C.psum_any A8 (n0 + n1 + n2) q8 (z0 ++ z1 ++ z2) w9 (TB.out.below hpos HB9.out) HL8.out (by omega) (C.byt_append (C.byt_append BB.out.1 BB.out.2.1) BB.out.2.2) (H8R'.out w9 HD9.out)
        rw [HSU.out.2.2.2] at h10
        go_wp2_with fail
        refine h10.mono ?_
        clear h10
        rintro r w10 ⟨rfl, hb10⟩
        have HB10 := Lib.hid (HB9.out.trans (hb10.mono HB9.out.size))
        clear hb10
        have h11 := C.pupd_any x a1 n1 c1 z1 w10 (TB.out.below hpos HB10.out) LT.out.1 L.out.2.1 (by omega) BB.out.2.1 ((RR.out.2.1.below HB10.out).more HB10.out.size)
        rw [HJ2.out.2.2.2.2.1] at h11
        go_wp2_with fail
        refine h11.mono ?_
        clear h11
        rintro r w11 ⟨rfl, hb11⟩
        have HB11 := Lib.hid (HB10.out.trans (hb11.mono HB10.out.size))
        clear hb11
        have h12 := C.pupd_any xy a2 n2 c2 z2 w11 (TB.out.below hpos HB11.out) LT.out.2.2.2.1 L.out.2.2 (by omega) BB.out.2.2 ((RR.out.2.2.below HB11.out).more HB11.out.size)
        rw [HJ2.out.2.2.2.2.2] at h12
        go_wp2_with fail
        refine h12.mono ?_
        clear h12
        rintro r w12 ⟨rfl, hb12⟩
        have HB12 := Lib.hid (HB11.out.trans (hb12.mono HB11.out.size))
        clear hb12
        have h13 := C.pupd_any x none 0 0 [] w12 (TB.out.below hpos HB12.out) LT.out.1 rfl (by omega) (fun _ h => by cases h) H.RdI.nil
        rw [show C.nats [] = [] from rfl, C.upd_nil LT.out.1] at h13
        go_wp2_with fail
        refine h13.mono ?_
        clear h13
        rintro r w13 ⟨rfl, hb13⟩
        have HB13 := Lib.hid (HB12.out.trans (hb13.mono HB12.out.size))
        clear hb13
        have h14 := C.pcomb_any x 0 0 w13 (TB.out.below hpos HB13.out) LT.out.1 (by decide) (by omega)
        rw [show (0 : Int).toNat = 0 from rfl, C.comb_nil] at h14
        go_wp2_with fail
        refine h14.mono ?_
        clear h14
        rintro r w14 ⟨rfl, hb14⟩
        have HB14 := Lib.hid (HB13.out.trans (hb14.mono HB13.out.size))
        clear hb14
        have hlv := C.plives_any w14 (TB.out.below hpos HB14.out)
        have hbl : Below w.heap.size w w14 := HB14.out
        have HBL := Lib.hid hbl
        clear hbl
        go_wp2_with fail
        refine hlv.mono ?_
        clear hlv
        rintro r w99 ⟨rfl, hb99⟩
        have HB99 := Lib.hid (HBL.out.trans (hb99.mono HBL.out.size))
        clear hb99
        go_wp2_with fail
        go_ret
        exact ⟨rfl, HB99.out⟩

theorem reads (os : Os) {H0 : Type} (enc : TypeId × Value → H0) : ∃ places, DataW.whole enc Tryd.prog ((Go.Proofs.YtpkhbglmbdpodaaDoor.C.laidWorld os).forCall (fun _ _ => 0) ⟨#[], #[.slice none 0 0, .slice none 0 0, .slice none 0 0], []⟩).memory Tryd.f10.params.toList Rows.crcJoinsSpec.vars false (#[.slice none 0 0, .slice none 0 0, .slice none 0 0] : Array Value).toList 8 = some ([.nil, .nil, .nil], [], places) :=
  ⟨[], by kernel_rfl⟩
set_option maxRecDepth 100000 in
theorem lifted (os : Os) (started : os.Started) (H0 : Type) (enc : TypeId × Value → H0) (F0 : Stop.Interp) :
    ReturnsInHanded {} Tryd.checked os 10 .any ((OpenSpec.ofChange Rows.crcJoinsSpec).preRow enc Tryd.prog Tryd.f10 Rows.crcJoinsRow.domain false Rows.crcJoinsRow.laid) (((OpenSpec.ofChange Rows.crcJoinsSpec).at F0).post enc Tryd.prog Tryd.f10 false true false false) := by
  obtain ⟨places, hx⟩ := reads os enc
  refine returnsInHanded_of_row (C := Tryd.checked) (s := (OpenSpec.ofChange Rows.crcJoinsSpec)) Go.Proofs.YtpkhbglmbdpodaaDoor.O.own started (by kernel_rfl) Tryd.func10
    (witness_row_at (enc := enc) (C := Tryd.checked) false (Go.Proofs.YtpkhbglmbdpodaaDoor.C.laidWorld os) #[.slice none 0 0, .slice none 0 0, .slice none 0 0] rfl (by kernel_rfl) (by kernel_rfl) (by kernel_rfl)
      (OpenSpec.preRow_of_cond 8 hx (by kernel_rfl) (fun k hk => by cases hk) (by kernel_rfl) (Go.Proofs.YtpkhbglmbdpodaaDoor.C.laid_met os _))) ?_
  intro W base args ds gs before hval0 hW _ hk0 hsz0 hL _ _
  have hsz : (DataW.weightsEach Tryd.prog (Tryd.f10.params.toList ++ (OpenSpec.ofChange Rows.crcJoinsSpec).bare.plain.varTypes Tryd.prog) (ds ++ gs)).all (· ≤ reachBytes) = true := hsz0
  clear hsz0
  have hval : ∀ (j : Nat) t v, Tryd.f10.params[j]? = some t → args[j]? = some v → Value.okWide Tryd.prog W .any base t v := hval0
  have hW' := hW
  obtain ⟨p, q, hA0, hV, rfl, hfz, hnd⟩ := hW
  have hA : DataW.TrodAll enc Tryd.prog W 0 (fun _ => true) true Tryd.f10.params.toList args.toList ds p := hA0
  rw [Tryd.params10] at hA hval hsz
  obtain ⟨v0, vs0, d0, ds0, p0, q0, hargs, rfl, rfl, h0, r0⟩ := trodAll_cons hA
  obtain ⟨v1, vs1, d1, ds1, p1, q1, rfl, rfl, rfl, h1, r1⟩ := trodAll_cons r0
  obtain ⟨v2, vs2, d2, ds2, p2, q2, rfl, rfl, rfl, h2, r2⟩ := trodAll_cons r1
  obtain ⟨rfl, rfl, rfl⟩ := trodAll_nil r2
  obtain rfl : args = #[v0, v1, v2] := by cases args; simp_all
  obtain ⟨rfl, rfl⟩ := trodVars_none hV
  obtain ⟨a0, n0, c0, rfl⟩ := okWide_slice Tryd.underlying22 (hval 0 22 v0 rfl rfl)
  have k0 := h0
  have lt0 : ∀ x ∈ p0, x.block < W.heap.size := by obtain ⟨m, hm⟩ := k0; exact DataW.trod_lt m _ _ _ hm
  obtain ⟨z0, l0, cp0, cq0, nz0, rd0, wf0, bj0⟩ := Go.Proofs.YtpkhbglmbdpodaaDoor.O.open_isT Tryd.underlying22 Tryd.underlying5 (by kernel_rfl) h0
  have el0 := Go.Proofs.YtpkhbglmbdpodaaDoor.O.open_el Tryd.underlying22 Tryd.underlying5 (by kernel_rfl) k0
  obtain ⟨a1, n1, c1, rfl⟩ := okWide_slice Tryd.underlying22 (hval 1 22 v1 rfl rfl)
  have k1 := h1
  have lt1 : ∀ x ∈ p1, x.block < W.heap.size := by obtain ⟨m, hm⟩ := k1; exact DataW.trod_lt m _ _ _ hm
  obtain ⟨z1, l1, cp1, cq1, nz1, rd1, wf1, bj1⟩ := Go.Proofs.YtpkhbglmbdpodaaDoor.O.open_isT Tryd.underlying22 Tryd.underlying5 (by kernel_rfl) h1
  have el1 := Go.Proofs.YtpkhbglmbdpodaaDoor.O.open_el Tryd.underlying22 Tryd.underlying5 (by kernel_rfl) k1
  obtain ⟨a2, n2, c2, rfl⟩ := okWide_slice Tryd.underlying22 (hval 2 22 v2 rfl rfl)
  have k2 := h2
  have lt2 : ∀ x ∈ p2, x.block < W.heap.size := by obtain ⟨m, hm⟩ := k2; exact DataW.trod_lt m _ _ _ hm
  obtain ⟨z2, l2, cp2, cq2, nz2, rd2, wf2, bj2⟩ := Go.Proofs.YtpkhbglmbdpodaaDoor.O.open_isT Tryd.underlying22 Tryd.underlying5 (by kernel_rfl) h2
  have el2 := Go.Proofs.YtpkhbglmbdpodaaDoor.O.open_el Tryd.underlying22 Tryd.underlying5 (by kernel_rfl) k2
  clear hA0 hval0
  have r0 : z0.length * 1 ≤ 140737488351232 := by
    rcases el0 with h | ⟨es, sp, h, hle⟩
    · omega
    · have hr := sized_slice hsz (j := 0) (t := 22) (e := 5) (elems := es) (spare := sp) rfl (by simp [h]) Tryd.underlying22
      rw [show Tryd.prog.bytesOf 5 = 1 from by kernel_rfl] at hr
      simp only [reachBytes] at hr
      omega
  have r1 : z1.length * 1 ≤ 140737488351232 := by
    rcases el1 with h | ⟨es, sp, h, hle⟩
    · omega
    · have hr := sized_slice hsz (j := 1) (t := 22) (e := 5) (elems := es) (spare := sp) rfl (by simp [h]) Tryd.underlying22
      rw [show Tryd.prog.bytesOf 5 = 1 from by kernel_rfl] at hr
      simp only [reachBytes] at hr
      omega
  have r2 : z2.length * 1 ≤ 140737488351232 := by
    rcases el2 with h | ⟨es, sp, h, hle⟩
    · omega
    · have hr := sized_slice hsz (j := 2) (t := 22) (e := 5) (elems := es) (spare := sp) rfl (by simp [h]) Tryd.underlying22
      rw [show Tryd.prog.bytesOf 5 = 1 from by kernel_rfl] at hr
      simp only [reachBytes] at hr
      omega
  have tb := Go.Proofs.YtpkhbglmbdpodaaDoor.C.tab_of_laid hL
  refine (walk a0 n0 c0 z0 a1 n1 c1 z1 a2 n2 c2 z2 W tb l0 ⟨cp0, cq0⟩ nz0 rd0 wf0 r0 l1 ⟨cp1, cq1⟩ nz1 rd1 wf1 r1 l2 ⟨cp2, cq2⟩ nz2 rd2 wf2 r2).mono fun e W' ⟨he, bel⟩ => ?_
  subst he
  exact ⟨_, rfl, _, _, _, [], _, [], hW', trodAll_mk1 (shut_bool Tryd.underlying4 _), (trodAll_cons_mk (Below.trod Go.Proofs.YtpkhbglmbdpodaaDoor.O.laidOut (by kernel_rfl) (of_decide_eq_true (by kernel_rfl)) k0 bel lt0) (trodAll_cons_mk (Below.trod Go.Proofs.YtpkhbglmbdpodaaDoor.O.laidOut (by kernel_rfl) (of_decide_eq_true (by kernel_rfl)) k1 bel lt1) (trodAll_cons_mk (Below.trod Go.Proofs.YtpkhbglmbdpodaaDoor.O.laidOut (by kernel_rfl) (of_decide_eq_true (by kernel_rfl)) k2 bel lt2) trodAll_mk0))), rfl, bel.frame _, fun h => by cases h⟩

theorem said : Rows.CrcJoinsSaid :=
  OpenClaim.holds_of_cond 10 Tryd.f10 rfl rfl rfl rfl rfl rfl rfl ⟨rfl, rfl, rfl, rfl, rfl⟩ rfl rfl rfl rfl rfl (by kernel_rfl) Tryd.func10 (by kernel_rfl)
    (of_decide_eq_true (by kernel_rfl)) (by unfold Func.isWrapper; first | (rw [if_pos (by decide +kernel)]; kernel_rfl) | (rw [if_neg (by decide +kernel)]; exact ⟨rfl, rfl⟩))
    (fun os started H0 enc _ F0 => by rw [OpenClaim.pre_eq_preRow]; exact lifted os started H0 enc F0)
theorem plain (f : FuncId) (fn : Func) (hf : Tryd.pinned.checked.prog.funcNamed "perigee/perigeelaw03.CrcJoins" = some f) (hfn : Tryd.pinned.checked.prog.funcs[f]? = some fn) :
    false = Tryd.pinned.checked.prog.looks [] ∧ ∀ (j : Nat) t, fn.params[j]? = some t → Tryd.pinned.checked.prog.wantsStandIn t = false := by
  obtain rfl : f = 10 := Option.some.inj ((show Tryd.prog.funcNamed "perigee/perigeelaw03.CrcJoins" = some 10 by kernel_rfl).symm.trans hf) |>.symm
  obtain rfl : fn = Tryd.f10 := (Option.some.inj (Tryd.func10.symm.trans hfn)).symm
  refine ⟨by kernel_rfl, fun j t ht => ?_⟩
  rw [Tryd.params10] at ht
  have hm : t ∈ [22, 22, 22] := by simpa using Array.mem_of_getElem? ht
  have hall : ([22, 22, 22].all fun u => !Tryd.prog.wantsStandIn u) = true := by kernel_rfl
  exact (show Tryd.prog.wantsStandIn t = false by simpa using List.all_eq_true.1 hall t hm)
/-- ████ THE CARD ████ -/
theorem proved : Rows.CrcJoinsCardSaid :=
  Claim7.holds_tied_plain_at .later [] _ _ _ _ said (fun _ h => by cases h) (by kernel_rfl) (fun _ h => by cases h) crcJoins_row_tie rfl ⟨rfl, rfl⟩ (by kernel_rfl) rfl plain (by kernel_rfl)
end Go.Proofs.YtpkhbglmbdpodaaDoor.crcJoins
