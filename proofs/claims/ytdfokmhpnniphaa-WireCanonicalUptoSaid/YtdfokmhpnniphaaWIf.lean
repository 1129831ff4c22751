/-
  What the laws of package wire ask of a Reader, whatever its own make: the walks of the laws are made over this.
-/
import Derived.Test.YtdfokmhpnniphaaWLaw
namespace Go.Proofs.Ytdfokmhpnniphaa
open Go.RowKit
namespace W
open H
set_option linter.unusedVariables false

/-- All that was there is as it was, but the blocks of F. -/
structure Save (F : Nat → Prop) (w w' : World) : Prop where
  os : w'.os = w.os
  tape : w'.tape = w.tape
  output : w'.output = w.output
  size : w.heap.size ≤ w'.heap.size
  block : ∀ k, k < w.heap.size → ¬ F k → w'.heap[k]? = w.heap[k]?
theorem Save.below {F : Nat → Prop} {B : Nat} {w w' : World} (h : Save F w w') (hB : B ≤ w.heap.size) (hF : ∀ k, F k → B ≤ k) : Below B w w' :=
  ⟨h.os, h.tape, h.output, h.size, fun k hk => h.block k (by omega) fun hf => by have := hF k hf; omega⟩
theorem Save.of_below {w w' : World} (F : Nat → Prop) (h : Below w.heap.size w w') : Save F w w' := ⟨h.os, h.tape, h.output, h.size, fun k hk _ => h.block k hk⟩
theorem Save.refl (F : Nat → Prop) (w : World) : Save F w w := ⟨rfl, rfl, rfl, Nat.le_refl _, fun _ _ _ => rfl⟩
theorem Save.drew {F : Nat → Prop} {a w : World} (h : Save F a w) : Save F a w.drew := ⟨h.os, h.tape, h.output, h.size, h.block⟩

/-- A Reader by its contracts. 'rep w p F s': at p in w there is a Reader in state s whose blocks are those of F. -/
structure RdrIf where
  rep : World → Addr → (Nat → Prop) → St → Prop
  foot : ∀ {w p F s}, rep w p F s → ∀ k, F k → k < w.heap.size
  keep : ∀ {w w' p F s}, rep w p F s → (∀ k, F k → w'.heap[k]? = w.heap[k]?) → rep w' p F s
  new : ∀ (A : Option Addr) (n c : Nat) (bs : List Int) (w : World), bs.length = n → n ≤ c → c ≤ maxLen → (A = none → c = 0) → n ≤ 140737488351232 → Byt bs → RdI w w.heap.size .u8 A bs →
    Calls Try.prog 17 #[.slice A n c] w fun r w' => ∃ p F, r = .returned (.pointer (some p)) ∧ rep w' p F (bs, 0) ∧ (∀ k, F k → w.heap.size ≤ k) ∧ Below w.heap.size w w'
  uint : ∀ {w p F s}, rep w p F s → Calls Try.prog 18 #[.pointer (some p)] w fun r w' => ∃ F', r = .returned (.int .u64 (rU s).2) ∧ rep w' p F' (rU s).1 ∧ (∀ k, F' k → F k ∨ w.heap.size ≤ k) ∧ Save F w w'
  int : ∀ {w p F s}, rep w p F s → Calls Try.prog 19 #[.pointer (some p)] w fun r w' => ∃ F', r = .returned (.int .i64 (rI s).2) ∧ rep w' p F' (rI s).1 ∧ (∀ k, F' k → F k ∨ w.heap.size ≤ k) ∧ Save F w w'
  bytes : ∀ {w p F s} (m : Int), -9223372036854775808 ≤ m ∧ m ≤ 9223372036854775807 → rep w p F s → Calls Try.prog 25 #[.pointer (some p), .int .i64 m] w fun r w' => ∃ F' Av cv, r = .returned (.slice Av (rB s m).2.length cv) ∧ rep w' p F' (rB s m).1 ∧ (∀ k, F' k → F k ∨ w.heap.size ≤ k) ∧ Save F w w' ∧
    RdI w' w'.heap.size .u8 Av (rB s m).2 ∧ (rB s m).2.length ≤ cv ∧ cv ≤ maxLen ∧ (Av = none → cv = 0) ∧ (∀ a, Av = some a → w.heap.size ≤ a.block ∧ ¬ F' a.block)
  ints : ∀ {w p F s} (m : Int), -9223372036854775808 ≤ m ∧ m ≤ 9223372036854775807 → rep w p F s → s.1.length ≤ 17592186044000 → Calls Try.prog 26 #[.pointer (some p), .int .i64 m] w fun r w' => ∃ F' Av cv, r = .returned (.slice Av (rL s m).2.length cv) ∧ rep w' p F' (rL s m).1 ∧ (∀ k, F' k → F k ∨ w.heap.size ≤ k) ∧ Save F w w' ∧
    RdI w' w'.heap.size .i64 Av (rL s m).2 ∧ (rL s m).2.length ≤ cv ∧ cv ≤ maxLen ∧ (Av = none → cv = 0) ∧ (∀ a, Av = some a → w.heap.size ≤ a.block ∧ ¬ F' a.block)
  err : ∀ {w p F s}, rep w p F s → Calls Try.prog 22 #[.pointer (some p)] w fun r w' => r = .returned (.int .i64 s.2) ∧ Below w.heap.size w w'
  fin : ∀ {w p F s}, rep w p F s → Calls Try.prog 23 #[.pointer (some p)] w fun r w' => r = .returned (.int .i64 (endOf s)) ∧ Below w.heap.size w w'

theorem RdrIf.stay (I : RdrIf) {w w' : World} {p : Addr} {F : Nat → Prop} {s : St} {B : Nat} (h : I.rep w p F s) (hb : Below B w w') (hB : ∀ k, F k → k < B) : I.rep w' p F s :=
  I.keep h fun k hk => hb.block k (hB k hk)
theorem RdrIf.aside (I : RdrIf) {w w' : World} {p : Addr} {F G : Nat → Prop} {s : St} (h : I.rep w p F s) (hb : Save G w w') (hG : ∀ k, F k → ¬ G k) : I.rep w' p F s :=
  I.keep h fun k hk => hb.block k (I.foot h k hk) (hG k hk)

set_option maxRecDepth 100000 in
set_option maxHeartbeats 4000000 in
theorem uints_walk (I : RdrIf) (hlives : ∀ w : World, Calls Try.prog 16 #[] w fun r w' => r = .returned (.bool true) ∧ Below w.heap.size w w')
    (A : Option Addr) (n c : Nat) (bs : List Int) (w : World) (hl : bs.length = n) (hc : n ≤ c) (hcm : c ≤ maxLen) (hz : A = none → c = 0) (hr : RdI w w.heap.size .u8 A bs) (hb : Byt bs) (hn : n ≤ 140737488351232) :
    Calls Try.prog 4 #[.slice A n c] w fun r w' => r = .returned (.bool true) ∧ Below w.heap.size w w' := by
  have hnew1 := I.new A n c bs w hl hc hcm hz hn hb hr
  have HR := Lib.hid hr
  have HL := Lib.hid hl
  have HZ := Lib.hid hz
  have HB := Lib.hid hb
  have HC := Lib.hid hcm
  have HLV := Lib.hid hlives
  clear hr hl hz hb hcm hlives
  go_enter Try.func4, Try.ntmps4
  go_wp2_with fail
  refine hnew1.mono ?_
  clear hnew1
  rintro e w1 ⟨p, F, rfl, hp, hF, hb1⟩
  have hnew2 := I.new A n c bs w1 HL.out hc HC.out HZ.out hn HB.out ((HR.out.below hb1).more hb1.size)
  have HP := Lib.hid hp
  have HF := Lib.hid hF
  clear hp hF
  go_wp2_with fail
  refine hnew2.mono ?_
  clear hnew2
  rintro e w2 ⟨q, G, rfl, hq, hG, hb2⟩
  have hp2 := I.stay HP.out hb2 (I.foot HP.out)
  have hFG : ∀ k, F k → ¬ G k := fun k hk hg => by have := I.foot HP.out k hk; have := hG k hg; omega
  have hG2 : ∀ k, G k → w.heap.size ≤ k := fun k hk => Nat.le_trans hb1.size (hG k hk)
  have HQ := Lib.hid hq
  have HP2 := Lib.hid hp2
  have HFG := Lib.hid hFG
  have HG := Lib.hid hG2
  have hB2 := hb1.trans (hb2.mono hb1.size)
  clear hq hp2 hFG hG hG2 HP
  go_wp2_with fail
  refine (I.uint HP2.out).mono ?_
  rintro e w3 ⟨F', rfl, hp3, hF', hs3⟩
  have hq3 := I.aside HQ.out hs3 fun k hg hf => HFG.out k hf hg
  have hB3 := hB2.trans (hs3.below hB2.size HF.out)
  have hF3 : ∀ k, F' k → w.heap.size ≤ k := fun k hk => by
    rcases hF' k hk with h | h
    · exact HF.out k h
    · exact Nat.le_trans hB2.size h
  have hFG3 : ∀ k, F' k → ¬ G k := fun k hk hg => by
    rcases hF' k hk with h | h
    · exact HFG.out k h hg
    · have := I.foot HQ.out k hg; omega
  have HP3 := Lib.hid hp3
  have HQ3 := Lib.hid hq3
  have HF3 := Lib.hid hF3
  have HFG3 := Lib.hid hFG3
  clear hp3 hq3 hF3 hFG3 hF' HP2 HQ HFG hs3
  go_wp2_with fail
  refine (I.int HQ3.out).mono ?_
  rintro e w4 ⟨G', rfl, hq4, hG', hs4⟩
  have hp4 := I.aside HP3.out hs4 fun k hf hg => HFG3.out k hf hg
  have hB4 := hB3.trans (hs4.below hB3.size HG.out)
  have hu5 := rduint_any w.heap.size A n c bs 0 w4 hB4.size HB.out HL.out hn hc HC.out HZ.out (HR.out.below hB4)
  have hi5 : ∀ W : World, Below w.heap.size w W → Calls Try.prog 21 #[rdr A n c 0] W (RdPost W w.heap.size (rI (bs, 0)).1 (.int .i64 (rI (bs, 0)).2)) := fun W hW => rdint_any w.heap.size A n c bs 0 W hW.size HB.out HL.out hn hc HC.out HZ.out (HR.out.below hW)
  have hIU : (rI (bs, 0)).1 = (rU (bs, 0)).1 := rfl
  have HP4 := Lib.hid hp4
  have HQ4 := Lib.hid (show I.rep w4 q G' (rU (bs, 0)).1 from hq4)
  have HI5 := Lib.hid hi5
  clear hp4 hq4 hG' hs4 HP3 HQ3 HFG3 hi5 hIU
  unfold rdr at hu5
  go_wp2_with fail
  refine hu5.mono ?_
  clear hu5
  rintro e w5 ⟨A5, n5, c5, rfl, hl5, hc5, hcm5, hz5, hr5, hb5⟩
  have HP5 := Lib.hid (I.stay HP4.out hb5 (I.foot HP4.out))
  have HQ5 := Lib.hid (I.stay HQ4.out hb5 (I.foot HQ4.out))
  have hB5 := hB4.trans (hb5.mono hB4.size)
  have H5 := Lib.hid (And.intro hl5 (And.intro hc5 (And.intro hcm5 (And.intro hz5 hr5))))
  clear hl5 hc5 hcm5 hz5 hr5 HP4 HQ4
  unfold rdr
  have hB5a := hB5.alloc hB5.size (.cells #[.slice A5 n5 c5, .int .i64 (rU (bs, 0)).1.2] 35)
  have hi6 := HI5.out _ hB5a
  unfold rdr at hi6
  go_wp2_with fail
  refine hi6.mono ?_
  clear hi6
  rintro e w6 ⟨A6, n6, c6, rfl, hl6, hc6, hcm6, hz6, hr6, hb6⟩
  clear hl6 hc6 hcm6 hz6 hr6 HI5
  have hsz6 : w5.heap.size < w6.heap.size := by have := hb6.size; simp at this; omega
  obtain ⟨hcl, hfr⟩ := bcell hb6
  have k0 : w6.cell? ⟨w5.heap.size, 0, none⟩ = some (.slice A5 n5 c5) := by rw [hcl _ _ (by simp)]; simp
  have k1 : w6.cell? ⟨w5.heap.size, 1, none⟩ = some (.int .i64 (rU (bs, 0)).1.2) := by rw [hcl _ _ (by simp)]; simp
  have hb56 : Below w5.heap.size w5 w6 := ((Below.refl _ w5).alloc (Nat.le_refl _) _).trans (hb6.mono (by simp))
  have HP6 := Lib.hid (I.stay HP5.out hb56 (I.foot HP5.out))
  have HQ6 := Lib.hid (I.stay HQ5.out hb56 (I.foot HQ5.out))
  have hB6 := hB5.trans (hb56.mono hB5.size)
  have H6 := Lib.hid hb56
  clear hcl hfr hb6 hb56 HP5 HQ5
  unfold rdr
  have hgo : ∀ {W w' : World}, Below w6.heap.size w6 W → Below W.heap.size W w' → (w'.cell? ⟨w5.heap.size, 0, none⟩ = some (.slice A5 n5 c5) ∧ w'.cell? ⟨w5.heap.size, 1, none⟩ = some (.int .i64 (rU (bs, 0)).1.2) ∧ Below w6.heap.size w6 w') := fun {W w'} h h' => by
    have h2 := h.trans (h'.mono h.size)
    exact ⟨(h2.cell (p := ⟨w5.heap.size, 0, none⟩) hsz6).trans k0, (h2.cell (p := ⟨w5.heap.size, 1, none⟩) hsz6).trans k1, h2⟩
  have hep : ∀ W : World, Below w6.heap.size w6 W → Calls Try.prog 22 #[.pointer (some p)] W fun r w' => r = .returned (.int .i64 (rU (bs, 0)).1.2) ∧ w'.cell? ⟨w5.heap.size, 0, none⟩ = some (.slice A5 n5 c5) ∧ w'.cell? ⟨w5.heap.size, 1, none⟩ = some (.int .i64 (rU (bs, 0)).1.2) ∧ Below w6.heap.size w6 w' := fun W h =>
    (I.err (I.stay HP6.out h (I.foot HP6.out))).mono fun r w' ⟨e, hb⟩ => ⟨e, hgo h hb⟩
  have heq : ∀ W : World, Below w6.heap.size w6 W → Calls Try.prog 22 #[.pointer (some q)] W fun r w' => r = .returned (.int .i64 (rU (bs, 0)).1.2) ∧ w'.cell? ⟨w5.heap.size, 0, none⟩ = some (.slice A5 n5 c5) ∧ w'.cell? ⟨w5.heap.size, 1, none⟩ = some (.int .i64 (rU (bs, 0)).1.2) ∧ Below w6.heap.size w6 w' := fun W h =>
    (I.err (I.stay HQ6.out h (I.foot HQ6.out))).mono fun r w' ⟨e, hb⟩ => ⟨e, hgo h hb⟩
  have hfp : ∀ W : World, Below w6.heap.size w6 W → Calls Try.prog 23 #[.pointer (some p)] W fun r w' => r = .returned (.int .i64 (endOf (rU (bs, 0)).1)) ∧ w'.cell? ⟨w5.heap.size, 0, none⟩ = some (.slice A5 n5 c5) ∧ w'.cell? ⟨w5.heap.size, 1, none⟩ = some (.int .i64 (rU (bs, 0)).1.2) ∧ Below w6.heap.size w6 w' := fun W h =>
    (I.fin (I.stay HP6.out h (I.foot HP6.out))).mono fun r w' ⟨e, hb⟩ => ⟨e, hgo h hb⟩
  have hfr : ∀ W : World, Below w6.heap.size w6 W → Calls Try.prog 24 #[.agg #[.slice A5 n5 c5, .int .i64 (rU (bs, 0)).1.2]] W fun r w' => r = .returned (.int .i64 (endOf (rU (bs, 0)).1)) ∧ w'.cell? ⟨w5.heap.size, 0, none⟩ = some (.slice A5 n5 c5) ∧ w'.cell? ⟨w5.heap.size, 1, none⟩ = some (.int .i64 (rU (bs, 0)).1.2) ∧ Below w6.heap.size w6 w' := fun W h =>
    (end_any A5 n5 c5 (rU (bs, 0)).1.1 (rU (bs, 0)).1.2 W H5.out.1).mono fun r w' ⟨e, hb⟩ => ⟨e, hgo h hb⟩
  have hlv : ∀ W : World, Below w6.heap.size w6 W → Calls Try.prog 16 #[] W fun r w' => r = .returned (.bool true) ∧ w'.cell? ⟨w5.heap.size, 0, none⟩ = some (.slice A5 n5 c5) ∧ w'.cell? ⟨w5.heap.size, 1, none⟩ = some (.int .i64 (rU (bs, 0)).1.2) ∧ Below w6.heap.size w6 w' := fun W h =>
    (HLV.out W).mono fun r w' ⟨e, hb⟩ => ⟨e, hgo h hb⟩
  have HEP := Lib.hid hep
  have HEQ := Lib.hid heq
  have HFP := Lib.hid hfp
  have HFR := Lib.hid hfr
  have HLW := Lib.hid hlv
  clear hgo hep heq hfp hfr hlv HLV
  generalize endOf (rU (bs, 0)).1 = ee at *
  generalize (rU (bs, 0)).1.2 = se at *
  generalize (rU (bs, 0)).2 = su at *
  generalize (rI (bs, 0)).2 = si at *
  have hA6 := ((Below.refl w6.heap.size w6).alloc (Nat.le_refl _) (.cells #[.slice A6 n6 c6, .int .i64 (rI (bs, 0)).1.2] 35)).drew
  have kk0 := (hA6.cell (p := ⟨w5.heap.size, 0, none⟩) hsz6).trans k0
  have kk1 := (hA6.cell (p := ⟨w5.heap.size, 1, none⟩) hsz6).trans k1
  go_wp2_with fail
  go_region_held3 (fun w' => w'.cell? ⟨w5.heap.size, 0, none⟩ = some (.slice A5 n5 c5) ∧ w'.cell? ⟨w5.heap.size, 1, none⟩ = some (.int .i64 se) ∧ Below w6.heap.size w6 w') (first | exact ⟨kk0, kk1, hA6⟩ | exact ⟨by assumption, by assumption, by assumption⟩ | go_keep)
    (first | (go_at_call 22; refine (HEP.out _ ?_).mono ?_; (assumption); rintro e w' ⟨rfl, hc0, hc1, hbb⟩) | (go_at_call 22; refine (HEQ.out _ ?_).mono ?_; (assumption); rintro e w' ⟨rfl, hc0, hc1, hbb⟩) | (go_at_call 23; refine (HFP.out _ ?_).mono ?_; (assumption); rintro e w' ⟨rfl, hc0, hc1, hbb⟩) | (go_at_call 24; refine (HFR.out _ ?_).mono ?_; (assumption); rintro e w' ⟨rfl, hc0, hc1, hbb⟩) | (go_at_call 16; refine (HLW.out _ ?_).mono ?_; (assumption); rintro e w' ⟨rfl, hc0, hc1, hbb⟩))
  all_goals
    have hend := ‹Below w6.heap.size w6 _›
    have hend2 := hB6.trans (hend.mono hB6.size)
    clear hend
    go_wp2_with fail
    go_ret
    exact ⟨rfl, hend2⟩

end W
end Go.Proofs.Ytdfokmhpnniphaa
