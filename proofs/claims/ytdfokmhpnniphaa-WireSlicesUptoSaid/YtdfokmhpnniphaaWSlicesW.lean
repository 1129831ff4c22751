/-
  WireSlices over a Reader's contracts.
-/
import Derived.Test.YtdfokmhpnniphaaWIfS
namespace Go.Proofs.Ytdfokmhpnniphaa
open Go.RowKit
namespace W
open H
set_option linter.unusedVariables false

set_option maxRecDepth 100000 in
set_option maxHeartbeats 100000000 in
theorem slices_walk (I : RdrIf) (hlives : ∀ w : World, Calls Try.prog 16 #[] w fun r w' => r = .returned (.bool true) ∧ Below w.heap.size w w')
    (A : Option Addr) (n c : Nat) (bs : List Int) (m : Int) (w : World) (hl : bs.length = n) (hc : n ≤ c) (hcm : c ≤ maxLen) (hz : A = none → c = 0) (hr : RdI w w.heap.size .u8 A bs) (hb : Byt bs) (hn : n ≤ 17592186044000) (hm : -9223372036854775808 ≤ m ∧ m ≤ 9223372036854775807) :
    Calls Try.prog 5 #[.slice A n c, .int .i64 m] w fun r w' => r = .returned (.bool true) ∧ Below w.heap.size w w' := by
  have hn2 : n ≤ 140737488351232 := by omega
  have hnew1 := I.new A n c bs w hl hc hcm hz hn2 hb hr
  have hlB := rB_len hb 0 m
  have hlL := rL_len hb 0 m
  rw [hl] at hlB hlL
  have HR := Lib.hid hr
  have HL := Lib.hid hl
  have HZ := Lib.hid hz
  have HB := Lib.hid hb
  have HC := Lib.hid hcm
  have HM := Lib.hid hm
  have HLV := Lib.hid hlives
  clear hr hl hz hb hcm hlives hm
  go_enter Try.func5, Try.ntmps5
  go_wp2_with fail
  refine hnew1.mono ?_
  clear hnew1
  rintro e w1 ⟨p, F, rfl, hp, hF, hb1⟩
  have hnew2 := I.new A n c bs w1 HL.out hc HC.out HZ.out hn2 HB.out ((HR.out.below hb1).more hb1.size)
  have HP := Lib.hid hp
  have HF := Lib.hid hF
  clear hp hF
  go_wp2_with fail
  refine hnew2.mono ?_
  clear hnew2
  rintro e w2 ⟨q, G, rfl, hq, hG, hb2⟩
  have hp2 := I.stay HP.out hb2 (I.foot HP.out)
  have hFG : ∀ k, F k → ¬ G k := fun k hk hg => by have := I.foot HP.out k hk; have := hG k hg; omega
  have hG2 : ∀ k, G k → w.heap.size ≤ k := fun k hk => Nat.le_trans hb1.size (hG k hk)
  have HQ := Lib.hid hq
  have HP2 := Lib.hid hp2
  have HFG := Lib.hid hFG
  have HG := Lib.hid hG2
  have hB2 := hb1.trans (hb2.mono hb1.size)
  clear hq hp2 hFG hG hG2 HP
  go_wp2_with fail
  refine (I.bytes m HM.out HP2.out).mono ?_
  rintro e w3 ⟨F', A3, c3, rfl, hp3, hF', hs3, hr3, hlc3, hcm3, hz3, hfr3⟩
  have hq3 := I.aside HQ.out hs3 fun k hg hf => HFG.out k hf hg
  have hB3 := hB2.trans (hs3.below hB2.size HF.out)
  have hFG3 : ∀ k, F' k → ¬ G k := fun k hk hg => by
    rcases hF' k hk with h | h
    · exact HFG.out k h hg
    · have := I.foot HQ.out k hg; omega
  have hAG : ∀ a, A3 = some a → ¬ G a.block := fun a ha hg => by
    have h1 := (hfr3 a ha).1
    have := I.foot HQ.out _ hg
    omega
  have HP3 := Lib.hid hp3
  have HQ3 := Lib.hid hq3
  have HFG3 := Lib.hid hFG3
  have HR3 := Lib.hid hr3
  have HAG := Lib.hid hAG
  clear hp3 hq3 hFG3 hF' HP2 HQ HFG hs3 hr3 hAG hfr3 hz3 hcm3 hlc3
  go_wp2_with fail
  refine (I.ints m HM.out HQ3.out (by have := HL.out; simp only; omega)).mono ?_
  rintro e w4 ⟨G', A4, c4, rfl, hq4, hG', hs4, hr4, hlc4, hcm4, hz4, hfr4⟩
  have hp4 := I.aside HP3.out hs4 fun k hf hg => HFG3.out k hf hg
  have hr34 := rdi_save HR3.out hs4 (Nat.le_refl _) HAG.out
  have hB4 := hB3.trans (hs4.below hB3.size HG.out)
  have hs34 := hs4.size
  have hv5 := rdbytes_any w.heap.size A n c bs 0 m w4 HM.out hB4.size HB.out HL.out hn2 hc HC.out HZ.out (HR.out.below hB4)
  have hi5 : ∀ W : World, Below w.heap.size w W → Calls Try.prog 28 #[rdr A n c 0, .int .i64 m] W (RdPostS W w.heap.size (rL (bs, 0) m).1 .i64 (rL (bs, 0) m).2) := fun W hW => rdints_any w.heap.size A n c bs 0 m W HM.out hW.size HB.out HL.out hn hc HC.out HZ.out (HR.out.below hW)
  have HP4 := Lib.hid hp4
  have HQ4 := Lib.hid hq4
  have HI5 := Lib.hid hi5
  have HR4 := Lib.hid hr4
  have HR34 := Lib.hid (hr34.more hs34)
  clear hp4 hq4 hG' hs4 HP3 HQ3 HFG3 hi5 hr4 hr34 hfr4 hz4 hcm4 hlc4 hs34 HR3 HAG
  unfold rdr at hv5
  go_wp2_with fail
  refine hv5.mono ?_
  clear hv5
  rintro e w5 ⟨A5, n5, c5, V5, d5, rfl, hl5, hc5, hcm5, hz5, hr5, hx5, hb5⟩
  have hB5 := hB4.trans (hb5.mono hB4.size)
  have hB5a := hB5.alloc hB5.size (.cells #[.slice A5 n5 c5, .int .i64 (rB (bs, 0) m).1.2] 35)
  have hi6 := HI5.out _ hB5a
  have H5 := Lib.hid (And.intro hl5 hx5)
  have hb45 := Lib.hid hb5
  clear hl5 hc5 hcm5 hz5 hr5 hx5 hb5 HI5
  unfold rdr at hi6 ⊢
  go_wp2_with fail
  refine hi6.mono ?_
  clear hi6
  rintro e w6 ⟨A6, n6, c6, V6, d6, rfl, hl6, hc6, hcm6, hz6, hr6, hx6, hb6⟩
  have hsz6 : w5.heap.size < w6.heap.size := by have := hb6.size; simp at this; omega
  have k0 : w6.cell? ⟨w5.heap.size, 0, none⟩ = some (.slice A5 n5 c5) := by rw [(bcell hb6).1 _ _ (by simp)]; simp
  have k1 : w6.cell? ⟨w5.heap.size, 1, none⟩ = some (.int .i64 (rB (bs, 0) m).1.2) := by rw [(bcell hb6).1 _ _ (by simp)]; simp
  have hb56 : Below w5.heap.size w5 w6 := ((Below.refl _ w5).alloc (Nat.le_refl _) _).trans (hb6.mono (by simp))
  have hb46 := hb45.out.trans (hb56.mono hb45.out.size)
  have hB6 := hB4.trans (hb46.mono hB4.size)
  have H6 := Lib.hid hl6
  have hb7 := (Below.refl w6.heap.size w6).alloc (Nat.le_refl _) (.cells #[.slice A6 n6 c6, .int .i64 (rL (bs, 0) m).1.2] 35)
  unfold rdr
  have hlB' := hlB
  have hlL' := hlL
  have H5a := H5.out.1
  have H5b := H5.out.2
  have H6b := hx6
  generalize hR6 : (rL (bs, 0) m).1 = R6 at *
  obtain ⟨s6, sl⟩ := R6
  generalize hR5 : (rB (bs, 0) m).1 = R5 at *
  obtain ⟨s5, sb⟩ := R5
  generalize hx : (rB (bs, 0) m).2 = xs at *
  generalize hy : (rL (bs, 0) m).2 = ys at *
  obtain ⟨w7, hw7⟩ : ∃ w7, w6.alloc (.cells #[.slice A6 n6 c6, .int .i64 sl] 35) = w7 := ⟨_, rfl⟩
  have hb67 : Below w6.heap.size w6 w7 := by rw [← hw7]; exact hb7
  have hs67 : w6.heap.size < w7.heap.size := by rw [← hw7]; simp
  have j0 : w7.cell? ⟨w6.heap.size, 0, none⟩ = some (.slice A6 n6 c6) := by rw [← hw7]; simp
  have j1 : w7.cell? ⟨w6.heap.size, 1, none⟩ = some (.int .i64 sl) := by rw [← hw7]; simp
  have i0 := (hb67.cell (p := ⟨w5.heap.size, 0, none⟩) hsz6).trans k0
  have i1 := (hb67.cell (p := ⟨w5.heap.size, 1, none⟩) hsz6).trans k1
  have hB7 := hB6.trans (hb67.mono hB6.size)
  have hb47 := hb46.trans (hb67.mono hb46.size)
  have hb57 := hb56.trans (hb67.mono hb56.size)
  have hgo : ∀ {W w' : World}, Below w7.heap.size w7 W → Below W.heap.size W w' → (w'.cell? ⟨w5.heap.size, 0, none⟩ = some (.slice A5 n5 c5) ∧ w'.cell? ⟨w5.heap.size, 1, none⟩ = some (.int .i64 sb) ∧ w'.cell? ⟨w6.heap.size, 0, none⟩ = some (.slice A6 n6 c6) ∧ w'.cell? ⟨w6.heap.size, 1, none⟩ = some (.int .i64 sl) ∧ Below w7.heap.size w7 w') := fun {W w'} h h' => by
    have h2 := h.trans (h'.mono h.size)
    exact ⟨(h2.cell (p := ⟨w5.heap.size, 0, none⟩) (Nat.lt_trans hsz6 hs67)).trans i0, (h2.cell (p := ⟨w5.heap.size, 1, none⟩) (Nat.lt_trans hsz6 hs67)).trans i1, (h2.cell (p := ⟨w6.heap.size, 0, none⟩) hs67).trans j0, (h2.cell (p := ⟨w6.heap.size, 1, none⟩) hs67).trans j1, h2⟩
  have hsb : ∀ W : World, Below w7.heap.size w7 W → Calls Try.prog 13 #[.slice A3 xs.length c3, .slice V5 xs.length d5] W fun r w' => r = .returned (.bool true) ∧ w'.cell? ⟨w5.heap.size, 0, none⟩ = some (.slice A5 n5 c5) ∧ w'.cell? ⟨w5.heap.size, 1, none⟩ = some (.int .i64 sb) ∧ w'.cell? ⟨w6.heap.size, 0, none⟩ = some (.slice A6 n6 c6) ∧ w'.cell? ⟨w6.heap.size, 1, none⟩ = some (.int .i64 sl) ∧ Below w7.heap.size w7 w' := fun W h =>
    (sameB_any A3 V5 xs.length xs.length c3 d5 xs xs W rfl rfl (Nat.le_trans hlB' hn2) (((HR34.out.below hb47).more hb47.size |>.below h).more h.size) (((H5b.below (hb57.mono (Nat.le_refl _))).more hb57.size |>.below h).more h.size)).mono fun r w' ⟨e, hb⟩ => ⟨by rw [e, decide_eq_true rfl], hgo h hb⟩
  have hsi : ∀ W : World, Below w7.heap.size w7 W → Calls Try.prog 29 #[.slice A4 ys.length c4, .slice V6 ys.length d6] W fun r w' => r = .returned (.bool true) ∧ w'.cell? ⟨w5.heap.size, 0, none⟩ = some (.slice A5 n5 c5) ∧ w'.cell? ⟨w5.heap.size, 1, none⟩ = some (.int .i64 sb) ∧ w'.cell? ⟨w6.heap.size, 0, none⟩ = some (.slice A6 n6 c6) ∧ w'.cell? ⟨w6.heap.size, 1, none⟩ = some (.int .i64 sl) ∧ Below w7.heap.size w7 w' := fun W h =>
    (sameI_any A4 V6 ys.length ys.length c4 d6 ys ys W rfl rfl (Nat.le_trans hlL' hn2) (((HR4.out.below hb47).more hb47.size |>.below h).more h.size) (((H6b.below hb67).more hb67.size |>.below h).more h.size)).mono fun r w' ⟨e, hb⟩ => ⟨by rw [e, decide_eq_true rfl], hgo h hb⟩
  have hfp : ∀ W : World, Below w7.heap.size w7 W → Calls Try.prog 23 #[.pointer (some p)] W fun r w' => r = .returned (.int .i64 (endOf (s5, sb))) ∧ w'.cell? ⟨w5.heap.size, 0, none⟩ = some (.slice A5 n5 c5) ∧ w'.cell? ⟨w5.heap.size, 1, none⟩ = some (.int .i64 sb) ∧ w'.cell? ⟨w6.heap.size, 0, none⟩ = some (.slice A6 n6 c6) ∧ w'.cell? ⟨w6.heap.size, 1, none⟩ = some (.int .i64 sl) ∧ Below w7.heap.size w7 w' := fun W h =>
    (I.fin (I.stay (I.stay HP4.out hb47 (I.foot HP4.out)) h fun k hk => Nat.lt_of_lt_of_le (I.foot HP4.out k hk) hb47.size)).mono fun r w' ⟨e, hb⟩ => ⟨by rw [e], hgo h hb⟩
  have hfq : ∀ W : World, Below w7.heap.size w7 W → Calls Try.prog 23 #[.pointer (some q)] W fun r w' => r = .returned (.int .i64 (endOf (s6, sl))) ∧ w'.cell? ⟨w5.heap.size, 0, none⟩ = some (.slice A5 n5 c5) ∧ w'.cell? ⟨w5.heap.size, 1, none⟩ = some (.int .i64 sb) ∧ w'.cell? ⟨w6.heap.size, 0, none⟩ = some (.slice A6 n6 c6) ∧ w'.cell? ⟨w6.heap.size, 1, none⟩ = some (.int .i64 sl) ∧ Below w7.heap.size w7 w' := fun W h =>
    (I.fin (I.stay (I.stay HQ4.out hb47 (I.foot HQ4.out)) h fun k hk => Nat.lt_of_lt_of_le (I.foot HQ4.out k hk) hb47.size)).mono fun r w' ⟨e, hb⟩ => ⟨by rw [e], hgo h hb⟩
  have hf5 : ∀ W : World, Below w7.heap.size w7 W → Calls Try.prog 24 #[.agg #[.slice A5 n5 c5, .int .i64 sb]] W fun r w' => r = .returned (.int .i64 (endOf (s5, sb))) ∧ w'.cell? ⟨w5.heap.size, 0, none⟩ = some (.slice A5 n5 c5) ∧ w'.cell? ⟨w5.heap.size, 1, none⟩ = some (.int .i64 sb) ∧ w'.cell? ⟨w6.heap.size, 0, none⟩ = some (.slice A6 n6 c6) ∧ w'.cell? ⟨w6.heap.size, 1, none⟩ = some (.int .i64 sl) ∧ Below w7.heap.size w7 w' := fun W h =>
    (end_any A5 n5 c5 s5 sb W H5a).mono fun r w' ⟨e, hb⟩ => ⟨by rw [e], hgo h hb⟩
  have hf6 : ∀ W : World, Below w7.heap.size w7 W → Calls Try.prog 24 #[.agg #[.slice A6 n6 c6, .int .i64 sl]] W fun r w' => r = .returned (.int .i64 (endOf (s6, sl))) ∧ w'.cell? ⟨w5.heap.size, 0, none⟩ = some (.slice A5 n5 c5) ∧ w'.cell? ⟨w5.heap.size, 1, none⟩ = some (.int .i64 sb) ∧ w'.cell? ⟨w6.heap.size, 0, none⟩ = some (.slice A6 n6 c6) ∧ w'.cell? ⟨w6.heap.size, 1, none⟩ = some (.int .i64 sl) ∧ Below w7.heap.size w7 w' := fun W h =>
    (end_any A6 n6 c6 s6 sl W H6.out).mono fun r w' ⟨e, hb⟩ => ⟨by rw [e], hgo h hb⟩
  have hlv : ∀ W : World, Below w7.heap.size w7 W → Calls Try.prog 16 #[] W fun r w' => r = .returned (.bool true) ∧ w'.cell? ⟨w5.heap.size, 0, none⟩ = some (.slice A5 n5 c5) ∧ w'.cell? ⟨w5.heap.size, 1, none⟩ = some (.int .i64 sb) ∧ w'.cell? ⟨w6.heap.size, 0, none⟩ = some (.slice A6 n6 c6) ∧ w'.cell? ⟨w6.heap.size, 1, none⟩ = some (.int .i64 sl) ∧ Below w7.heap.size w7 w' := fun W h =>
    (HLV.out W).mono fun r w' ⟨e, hb⟩ => ⟨by rw [e], hgo h hb⟩
  have XA := Lib.hid hsb
  have XB := Lib.hid hsi
  have XC := Lib.hid hfp
  have XD := Lib.hid hfq
  have XE := Lib.hid hf5
  have XF := Lib.hid hf6
  have XG := Lib.hid hlv
  clear hgo hsb hsi hfp hfq hf5 hf6 hlv hx hy hR5 hR6 HLV H5a H5b H6b hx6 hl6 H5 H6 HR34 HR4 HP4 HQ4 hb6 hb7 k0 k1 
  have hA7 := (Below.refl w7.heap.size w7).drew
  have m0 := (hA7.cell (p := ⟨w5.heap.size, 0, none⟩) (Nat.lt_trans hsz6 hs67)).trans i0
  have m1 := (hA7.cell (p := ⟨w5.heap.size, 1, none⟩) (Nat.lt_trans hsz6 hs67)).trans i1
  have m2 := (hA7.cell (p := ⟨w6.heap.size, 0, none⟩) hs67).trans j0
  have m3 := (hA7.cell (p := ⟨w6.heap.size, 1, none⟩) hs67).trans j1
  go_wp2_with fail
  try rw [hw7]
  clear hw7
  generalize endOf (s5, sb) = e5 at *
  generalize endOf (s6, sl) = e6 at *
  clear i0 i1 j0 j1 hb1 hb2 hB2 hB3 hB4 hB5 hB5a hB6 hb45 hb46 hb47 hb56 hb57 hb67 HL HB HC HM HR HZ HF HG hlB hlL hlB' hlL' hn hn2 hc hsz6 hs67
  go_region_held3 (fun w' => w'.cell? ⟨w5.heap.size, 0, none⟩ = some (.slice A5 n5 c5) ∧ w'.cell? ⟨w5.heap.size, 1, none⟩ = some (.int .i64 sb) ∧ w'.cell? ⟨w6.heap.size, 0, none⟩ = some (.slice A6 n6 c6) ∧ w'.cell? ⟨w6.heap.size, 1, none⟩ = some (.int .i64 sl) ∧ Below w7.heap.size w7 w') (first | exact ⟨m0, m1, m2, m3, hA7⟩ | exact ⟨by assumption, by assumption, by assumption, by assumption, by assumption⟩ | go_keep)
    (first | (go_at_call 13; (with_reducible refine (XA.out _ ?_).mono ?_); (assumption); rintro e w' ⟨rfl, hc0, hc1, hc2, hc3, hbb⟩) | (go_at_call 29; (with_reducible refine (XB.out _ ?_).mono ?_); (assumption); rintro e w' ⟨rfl, hc0, hc1, hc2, hc3, hbb⟩) | (go_at_call 23; (with_reducible refine (XC.out _ ?_).mono ?_); (assumption); rintro e w' ⟨rfl, hc0, hc1, hc2, hc3, hbb⟩) | (go_at_call 23; (with_reducible refine (XD.out _ ?_).mono ?_); (assumption); rintro e w' ⟨rfl, hc0, hc1, hc2, hc3, hbb⟩) | (go_at_call 24; (with_reducible refine (XE.out _ ?_).mono ?_); (assumption); rintro e w' ⟨rfl, hc0, hc1, hc2, hc3, hbb⟩) | (go_at_call 24; (with_reducible refine (XF.out _ ?_).mono ?_); (assumption); rintro e w' ⟨rfl, hc0, hc1, hc2, hc3, hbb⟩) | (go_at_call 16; (with_reducible refine (XG.out _ ?_).mono ?_); (assumption); rintro e w' ⟨rfl, hc0, hc1, hc2, hc3, hbb⟩))
  all_goals
    have hend := ‹Below w7.heap.size w7 _›
    have hend2 := hB7.trans (hend.mono hB7.size)
    clear hend
    go_wp2_with fail
    go_ret
    exact ⟨rfl, hend2⟩

end W
end Go.Proofs.Ytdfokmhpnniphaa
