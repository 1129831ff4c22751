/-
  The program's Reader: Bytes.
-/
import Derived.Test.YtdfokmhpnniphaaWRI
namespace Go.Proofs.Ytdfokmhpnniphaa
open Go.RowKit
namespace W
open H
set_option linter.unusedVariables false

theorem rS_zero {s : St} {m : Int} (h : (rS s m).1.2 ≠ 0) : (rS s m).2 = 0 := by
  unfold rS at h ⊢
  by_cases h1 : (rU s).1.2 ≠ 0
  · rw [if_pos h1]
  · rw [if_neg h1] at h ⊢
    by_cases h2 : m < ((rU s).2 : Nat)
    · rw [if_pos h2]
    · rw [if_neg h2] at h
      exact absurd h h1

theorem RdI.take {w : World} {B : Nat} {k : IntKind} {A : Option Addr} {zs : List Int} (m : Nat) (h : RdI w B k A zs) : RdI w B k A (zs.take m) := fun j hj => by
  rw [List.length_take] at hj
  obtain ⟨ad, e, hb, hcc⟩ := h j (by omega)
  exact ⟨ad, e, hb, by rw [hcc, List.getElem?_take, if_pos (by omega)]⟩
theorem _root_.Go.World.ownsRow.low {w : World} {base base' : Nat} {e : TypeId} {v : Value} {n : Nat} {xs : List Value} (h : w.ownsRow base e 1 v n xs) (hb : base' ≤ base) : w.ownsRow base' e 1 v n xs := by
  refine ⟨h.1, ?_⟩
  rcases h.2 with h2 | ⟨g, cap, cur, hv, hg, hr⟩
  · exact .inl h2
  · exact .inr ⟨g, cap, cur, hv, by omega, hr⟩

/-- What Bytes and Ints of a Reader leave: a new slice of the elements read, and the Reader behind them. -/
def RdPostV (w : World) (b : Nat) (A : Option Addr) (n c : Nat) (bs : List Int) (T : TypeId) (kd : IntKind) (R : St × List Int) (r : Ending) (w' : World) : Prop :=
  ∃ v, r = .returned v ∧ w'.ownsRow w.heap.size T 1 v R.2.length (R.2.map (Value.int kd)) ∧ ∃ k' e', RAt w' b A n c bs k' e' ∧ StOf bs k' e' R.1 ∧ Save (· = b) w w'

set_option maxRecDepth 100000 in
set_option maxHeartbeats 1000000 in
theorem bytes_rd {w : World} {b : Nat} {A : Option Addr} {n c : Nat} {bs : List Int} {k : Nat} {e : Int} {s : St} (m : Int) (hm : -9223372036854775808 ≤ m ∧ m ≤ 9223372036854775807) (h : RAt w b A n c bs k e) (hs : StOf bs k e s) :
    Calls Try.prog 25 #[.pointer (some ⟨b, 0, none⟩), .int .i64 m] w (RdPostV w b A n c bs 5 .u8 (rB s m)) := by
  have hlen := length_rd m hm h hs
  have hz := @rS_zero s m
  have hsm := h.small
  have hcm := h.capm
  have hcn := h.cap
  have HNIL := Lib.hid h.nil
  have hB : rB s m = if (rS s m).1.2 ≠ 0 then ((rS s m).1, []) else if (rS s m).1.1.length < (rS s m).2 then (((rS s m).1.1, 6), []) else (((rS s m).1.1.drop (rS s m).2, 0), (rS s m).1.1.take (rS s m).2) := rfl
  clear h hs hm
  generalize rB s m = R at hB ⊢
  generalize rS s m = t at hlen hz hB ⊢
  obtain ⟨⟨t1, t2⟩, tu⟩ := t
  simp only at hlen hz hB ⊢
  have HZ := Lib.hid hz
  clear hz
  by_cases h2 : t2 = 0
  · subst h2
    rw [if_neg (by simp)] at hB
    have HRB := Lib.hid hB
    clear hB
    go_enter Try.func25, Try.ntmps25
    go_wp2_with fail
    refine hlen.mono ?_
    clear hlen
    rintro r w1 ⟨rfl, k', e', hR, hS, hV⟩
    obtain rfl : e' = 0 := hS.1.symm
    have hS := hS.2 rfl
    simp only at hS
    subst hS
    have c0 := blk_cell hR.blk 0
    have c1 := blk_cell hR.blk 1
    have c2 := blk_cell hR.blk 2
    have f1 := blk_frozen hR.blk 1
    simp at c0 c1 c2
    have hpos := hR.pos
    have hlb : (bs.drop k').length = n - k' := by rw [List.length_drop, hR.len]
    have HLB := Lib.hid hlb
    have HR := Lib.hid hR
    have HV := Lib.hid hV
    clear hR hV hlb
    by_cases htu : tu ≤ n - k'
    · have hRv : R = ((bs.drop (k' + tu), 0), (bs.drop k').take tu) := by
        rw [HRB.out, if_neg (by rw [HLB.out]; omega), List.drop_drop]
      subst hRv
      clear HRB
      have q1 : ¬ ((n : Int) - (k' : Int) < (tu : Int)) := by omega
      have q3 : (0 : Int) ≤ (n : Int) - (k' : Int) := by omega
      have q4 : (tu : Int) ≤ (n : Int) - (k' : Int) := by omega
      have hlt : ((bs.drop k').take tu).length = tu := by rw [List.length_take, HLB.out]; omega
      have HLT := Lib.hid hlt
      clear hlt
      go_wp2_with fail
      go_quiet (fail)
      go_wp2_with fail
      have hR2 : RAt ((w1.drewN nq).setCell ⟨b, 1, none⟩ (.int .i64 ((k' : Int) + (tu : Int)))) b A n c bs (k' + tu) 0 := (HR.out.drewN nq).upd (Save.one _ _ _ _) (blk_set (HR.out.drewN nq).blk 1 _) (by omega)
      have hV2 : Save (· = b) w ((w1.drewN nq).setCell ⟨b, 1, none⟩ (.int .i64 ((k' : Int) + (tu : Int)))) := (HV.out.drewN _).trans (Save.one _ _ _ _)
      clear c0 c1 c2 f1 HR HV
      generalize (w1.drewN nq).setCell ⟨b, 1, none⟩ (.int .i64 ((k' : Int) + (tu : Int))) = W2 at hR2 hV2 ⊢
      have c0 := blk_cell hR2.blk 0
      have c1 := blk_cell hR2.blk 1
      simp at c0 c1
      have c0' : W2.drew.cell? ⟨b, 0, none⟩ = some (.slice A n c) := c0
      have c1' : W2.drew.cell? ⟨b, 1, none⟩ = some (.int .i64 ((k' : Int) + (tu : Int))) := c1
      have HR2 := Lib.hid hR2
      have HV2 := Lib.hid hV2
      clear hR2 hV2
      have h63 : c ≤ 9223372036854775807 := hcm
      have fin : ∀ (W3 : World) (v : Value), OwnB W2.drew W3 ((bs.drop k').take tu) v → W3.ownsRow w.heap.size 5 1 v ((bs.drop k').take tu).length (((bs.drop k').take tu).map (Value.int .u8)) ∧ ∃ k'' e'', RAt W3 b A n c bs k'' e'' ∧ StOf bs k'' e'' (bs.drop (k' + tu), 0) ∧ Save (· = b) w W3 := fun W3 v ⟨ho, hb⟩ =>
        ⟨ho.low HV2.out.size, k' + tu, 0, HR2.out.keep hb.size (hb.block _ (blk_lt HR2.out.blk)) (fun a ha => hb.block _ (HR2.out.inb a ha)), ⟨rfl, fun _ => rfl⟩, HV2.out.drew.then hb⟩
      have FIN := Lib.hid fin
      clear fin
      rcases A with _ | ad
      · obtain rfl : c = 0 := HNIL.out rfl
        have hn0 : n ≤ 0 := by omega
        obtain rfl : n = 0 := by omega
        obtain rfl : tu = 0 := by omega
        obtain rfl : k' = 0 := by omega
        have hcl := clone_any none 0 0 ((bs.drop 0).take 0) W2.drew HLT.out (by omega) (fun _ => rfl) RdI.nil
        go_region_with (go_at_call 44; refine hcl.mono ?_; rintro e w3 ⟨v, rfl, ho⟩; have HO := Lib.hid ho; clear ho)
        all_goals
          go_wp2_with fail
          go_ret
          exact ⟨_, rfl, FIN.out _ _ HO.out⟩
      · have hrd := (RdI.take tu (RdI.cut HR2.out.rd k')).below (Below.refl W2.heap.size W2).drew
        rcases Nat.lt_or_ge k' c with hkc | hkc
        · have hcl := fun c' => clone_any (some (ad.add k')) tu c' ((bs.drop k').take tu) W2.drew HLT.out (by omega) (fun h => by cases h) hrd
          have HCL := Lib.hid hcl
          have HRD := Lib.hid hrd
          clear hrd hcl
          go_region_with (go_at_call 44; refine (HCL.out _).mono ?_; rintro e w3 ⟨v, rfl, ho⟩; have HO := Lib.hid ho; clear ho)
          all_goals
            go_wp2_with fail
            go_ret
            exact ⟨_, rfl, FIN.out _ _ HO.out⟩
        · obtain rfl : k' = c := by omega
          obtain rfl : k' = n := by omega
          obtain rfl : tu = 0 := by omega
          have hcl := fun c' => clone_any (some ad) 0 c' ((bs.drop k').take 0) W2.drew HLT.out (by omega) (fun h => by cases h) RdI.nil
          have HCL := Lib.hid hcl
          clear hrd hcl
          go_region_with (go_at_call 44; refine (HCL.out _).mono ?_; rintro e w3 ⟨v, rfl, ho⟩; have HO := Lib.hid ho; clear ho)
          all_goals
            go_wp2_with fail
            go_ret
            exact ⟨_, rfl, FIN.out _ _ HO.out⟩
    · have hRv : R = ((bs.drop k', 6), []) := by
        rw [HRB.out, if_pos (by rw [HLB.out]; omega)]
      subst hRv
      clear HRB
      have q1 : ((n : Int) - (k' : Int) < (tu : Int)) := by omega
      have q3 : (0 : Int) ≤ (n : Int) - (k' : Int) := by omega
      have hfl := fun nq => fail_rd 6 (HR.out.drewN nq)
      go_wp2_with fail
      go_quiet (fail)
      have hfl := hfl nq
      go_wp2_with fail
      refine hfl.mono ?_
      clear hfl
      rintro r w2 ⟨rfl, hR2, hV2⟩
      rw [if_pos trivial] at hR2
      have d2 := blk_cell hR2.blk 2
      simp at d2
      have HR2 := Lib.hid hR2
      have HV2 := Lib.hid hV2
      clear hR2 hV2 c0 c1 c2 f1
      go_wp2_with fail
      go_ret
      exact ⟨_, rfl, World.ownsRow_nil _ _ _ _, k', 6, HR2.out, ⟨rfl, fun h => by cases h⟩, (HV.out.drewN _).trans HV2.out⟩
  · obtain rfl : tu = 0 := HZ.out h2
    rw [if_pos h2] at hB
    subst hB
    have h2' : (t2 != 0) = true := by simpa using h2
    have H2 := Lib.hid h2
    clear h2 HZ
    go_enter Try.func25, Try.ntmps25
    go_wp2_with fail
    refine hlen.mono ?_
    clear hlen
    rintro r w1 ⟨rfl, k', e', hR, hS, hV⟩
    obtain rfl : t2 = e' := hS.1
    have c0 := blk_cell hR.blk 0
    have c1 := blk_cell hR.blk 1
    have c2 := blk_cell hR.blk 2
    simp at c0 c1 c2
    have hpos := hR.pos
    have HR := Lib.hid hR
    have HS := Lib.hid hS
    have HV := Lib.hid hV
    clear hR hV hS
    have q3 : (0 : Int) ≤ (n : Int) - (k' : Int) := by omega
    have q1 : ¬ ((n : Int) - (k' : Int) < 0) := by omega
    go_wp2_with fail
    go_quiet (fail)
    go_wp2_with fail
    go_ret
    exact ⟨_, rfl, World.ownsRow_nil _ _ _ _, k', t2, HR.out.drewN _, HS.out, HV.out.drewN _⟩

end W
end Go.Proofs.Ytdfokmhpnniphaa
