/-
  The program's Reader: Ints.
-/
import Derived.Test.YtlmbpbhdbgadjaaVRJ
namespace Go.Proofs.Ytlmbpbhdbgadjaa
open Go.RowKit
namespace W
open H
set_option linter.unusedVariables false

theorem own_save {F : Nat → Prop} {w w' : World} {base n : Nat} {e : TypeId} {v : Value} {xs : List Value} (h : w.ownsRow base e 1 v n xs) (hs : Save F w w') (hF : ∀ k, F k → k < base) : w'.ownsRow base e 1 v n xs := by
  refine ⟨h.1, ?_⟩
  rcases h.2 with h2 | ⟨g, cap, cur, hv, hg, hh, hr⟩
  · exact .inl h2
  · exact .inr ⟨g, cap, cur, hv, hg, (hs.block g (blk_lt hh) fun hf => by have := hF g hf; omega).trans hh, hr⟩

theorem Save.upto {F : Nat → Prop} {w a b : World} (h : Save F w a) (hb : Below w.heap.size a b) : Save F w b :=
  ⟨hb.os.trans h.os, hb.tape.trans h.tape, hb.output.trans h.output, Nat.le_trans h.size hb.size, fun k hk hf => (hb.block k hk).trans (h.block k hk hf)⟩

theorem rL_err0 {s : St} {m : Int} (h : (rS s m).1.2 ≠ 0) : rL s m = ((rS s m).1, []) := by
  unfold rL
  rw [rS_zero h, rN]
  simp only
  rw [if_pos h]

set_option maxRecDepth 100000 in
set_option maxHeartbeats 1000000 in
theorem ints_rd {w : World} {b : Nat} {A : Option Addr} {n c : Nat} {bs : List Int} {k : Nat} {e : Int} {s : St} (m : Int) (hm : -9223372036854775808 ≤ m ∧ m ≤ 9223372036854775807) (hsz : s.2 = 0 → s.1.length ≤ 17592186044000) (h : RAt w b A n c bs k e) (hs : StOf bs k e s) :
    Calls Try.prog 42 #[.pointer (some ⟨b, 0, none⟩), .int .i64 m] w (RdPostV w b A n c bs 3 .i64 (rL s m)) := by
  obtain ⟨i0, hi, hz0, hz1, hz2⟩ := info_parts infoI
  have hlen := length_rd m hm h hs
  have hz := @rS_zero s m
  have he0 := @rL_err0 s m
  have hlt : (rS s m).2 < 18446744073709551616 := by
    have := StOf.lt h hs
    unfold rS
    split
    · show 0 < 18446744073709551616
      decide
    · split
      · show 0 < 18446744073709551616
        decide
      · exact this
  have hfin := fun (k : Nat) (cb xs : List Int) => @LInv.fin s m k cb xs
  have herr := fun (k : Nat) (cb : List Int) (ce : Int) (xs : List Int) => @LInv.err s m k cb ce xs
  have hlb : (rS s m).1.2 = 0 → (rS s m).1.1.length ≤ 17592186044000 := by
    obtain ⟨s1, s2⟩ := s
    intro h0
    by_cases hs2 : s2 = 0
    · subst hs2
      have h1 := hs.2 hs.1.symm
      simp only at h1
      have := rS_len (bs := s1) (by rw [h1]; exact fun x hx => h.byt x (List.mem_of_mem_drop hx)) 0 m
      exact Nat.le_trans this (hsz rfl)
    · exfalso
      have : rS (s1, s2) m = ((s1, s2), 0) := by
        unfold rS
        rw [rU_err hs2, if_pos hs2]
      rw [this] at h0
      exact hs2 h0
  have hbw := blk_lt h.blk
  have hinb := h.inb
  have HH := Lib.hid h
  have HINB := Lib.hid hinb
  clear h hs hm hinb hsz
  generalize rL s m = R at he0 hfin herr ⊢
  generalize rS s m = t at hlen hz he0 hlt hfin herr hlb ⊢
  obtain ⟨⟨t1, t2⟩, tu⟩ := t
  simp only at hlen hz he0 hlt hfin herr hlb ⊢
  have HLB := Lib.hid hlb
  clear hlb
  have HZ := Lib.hid hz
  have HE0 := Lib.hid he0
  have HFIN := Lib.hid hfin
  have HERR := Lib.hid herr
  clear hz he0 hfin herr
  by_cases h2 : t2 = 0
  · subst h2
    go_enter Try.func42, Try.ntmps42
    go_wp2_with fail
    refine hlen.mono ?_
    clear hlen
    rintro r w1 ⟨rfl, k', e', hR, hS, hV⟩
    obtain rfl : e' = 0 := hS.1.symm
    have hS2 := hS.2 rfl
    simp only at hS2
    subst hS2
    have HR := Lib.hid hR
    have HV := Lib.hid hV
    clear hR hV hS
    go_wp2_with fail
    have hst : LInv (bs.drop k', 0) tu 0 (bs.drop k') 0 [] := LInv.start (fun x hx => HR.out.byt x (List.mem_of_mem_drop hx)) tu
    have HST := Lib.hid hst
    have hpos := HR.out.pos
    have hdl : (bs.drop k').length ≤ 17592186044000 := HLB.out (by first | rfl | trivial)
    clear hst
    obtain ⟨B0, hB0⟩ : ∃ B0, bs.drop k' = B0 := ⟨_, rfl⟩
    rw [hB0] at HST HFIN HERR hdl
    have HB0 := Lib.hid hB0
    clear hB0
    go_loopw [6, 7] (fun o i wr => ∃ (j kc : Nat) (ce : Int) (cb xs : List Int), i = .int .u64 j ∧ LInv (B0, 0) tu j cb ce xs ∧ RAt wr b A n c bs kc ce ∧ (ce = 0 → cb = bs.drop kc) ∧ wr.ownsRow w.heap.size 3 1 o xs.length (xs.map (Value.int .i64)) ∧ Save (· = b) w wr) (fun _ i _ => tu - (intOf i).toNat)
    case atStart => exact ⟨0, k', 0, B0, [], rfl, HST.out, HR.out, fun _ => HB0.out.symm, World.ownsRow_nil _ _ _ _, HV.out⟩
    case round =>
      obtain ⟨j, kc, ce, cb, xs, rfl, hI, hR, hcb, hown, hV⟩ := hrel
      obtain ⟨Ao, co, rfl⟩ := own_shape hown
      have hjt := hI.1
      have hxl : xs.length ≤ j := by rw [hI.2.1]; exact Nat.le_refl _
      have hcl := hI.2.2.2.2.2
      have c2 := blk_cell hR.blk 2
      simp at c2
      by_cases hce : ce = 0
      · subst hce
        obtain rfl := hcb rfl
        rcases Nat.lt_or_ge j tu with hjl | hjg
        · have hcall := int_rd (s := (bs.drop kc, 0)) hR ⟨rfl, fun _ => rfl⟩
          have hnext := hI.next hjl
          have hjn : j ≤ 17592186044000 := by
            have := (hI.2.2.2.1 rfl).1
            simp only at this
            omega
          generalize rI (bs.drop kc, 0) = t at hcall hnext
          obtain ⟨⟨cb', ce'⟩, x⟩ := t
          have HN := Lib.hid hnext
          have HOW := Lib.hid hown
          have HVr := Lib.hid hV
          clear hnext hown hV hI hR hcb HV HR HST
          go_wp2_with fail
          refine hcall.mono ?_
          clear hcall
          rintro r w3 ⟨rfl, k3, e3, hR3, hS3, hV3⟩
          obtain rfl : ce' = e3 := hS3.1
          have hown3 := own_save HOW.out hV3 (fun k hk => by rw [hk]; exact hbw)
          have HR3 := Lib.hid hR3
          have HS3 := Lib.hid hS3.2
          have hV4 := HVr.out.trans hV3
          have hsz3 := hV4.size
          have HV4 := Lib.hid hV4
          have HOW3 := Lib.hid hown3
          clear hR3 hS3 hV4 hV3 hown3
          go_wp2_with (at_builtin; refine wpList_append_own _ rfl _ _ 42 rfl w.heap.size 3 i0 (.int .i64 0) 1 8 Try.underlying42 hi hz0 hz1 hz2 rfl (by decide) _ _ _ rfl (HOW3.out.alloc _) ⟨w3.heap.size, 0, none⟩ 1 1 [.int .i64 x] rfl rfl (cell_one_new _ _ _) (by simp [Value.oneCell']) (by unfold maxLen; omega) (by omega) (by simp; omega) ?_; intro v' w5 hown' hgrow _)
          have hb5 : Below w.heap.size w3 w5 := own_below hsz3 HOW3.out hgrow
          go_roundw
          case rel =>
            refine ⟨j + 1, k3, ce', cb', xs ++ [x], by go_num, HN.out, HR3.out.keep hb5.size (hb5.block _ hbw) (fun a ha => hb5.block _ (HINB.out a ha)), HS3.out, ?_, HV4.out.upto hb5⟩
            rw [List.length_append, List.map_append]
            exact hown'
          case measure => simp [intOf]; omega
        · have hRv := HFIN.out j (bs.drop kc) xs hI hjg
          subst hRv
          have hc1 : ¬ (j : Int) < (tu : Int) := by omega
          have HOW := Lib.hid hown
          have HVr := Lib.hid hV
          have HRr := Lib.hid hR
          clear hown hV hI hR hcb HV HR HST
          go_wp2_with fail
          go_ret
          exact ⟨_, rfl, HOW.out, kc, 0, HRr.out, ⟨rfl, fun _ => rfl⟩, HVr.out⟩
      · have hRv := HERR.out j cb ce xs hI hce
        subst hRv
        have h2' : (ce == 0) = false := by simpa using hce
        have h2'' : (ce != 0) = true := by simpa using hce
        have HCE := Lib.hid hce
        have HOW := Lib.hid hown
        have HVr := Lib.hid hV
        have HRr := Lib.hid hR
        clear hown hV hI hR hcb HV HR HST hce
        rcases Nat.lt_or_ge j tu with hjl | hjg
        · have hc1 : (j : Int) < (tu : Int) := by omega
          go_wp2_with fail
          go_ret
          exact ⟨_, rfl, World.ownsRow_nil _ _ _ _, kc, ce, HRr.out, ⟨rfl, fun h => absurd h HCE.out⟩, HVr.out⟩
        · have hc1 : ¬ (j : Int) < (tu : Int) := by omega
          go_wp2_with fail
          go_ret
          exact ⟨_, rfl, World.ownsRow_nil _ _ _ _, kc, ce, HRr.out, ⟨rfl, fun h => absurd h HCE.out⟩, HVr.out⟩
  · obtain rfl : tu = 0 := HZ.out h2
    obtain rfl := HE0.out h2
    have h2' : (t2 == 0) = false := by simpa using h2
    have h2'' : (t2 != 0) = true := by simpa using h2
    clear h2 HZ HE0 HFIN HERR
    go_enter Try.func42, Try.ntmps42
    go_wp2_with fail
    refine hlen.mono ?_
    clear hlen
    rintro r w1 ⟨rfl, k', e', hR, hS, hV⟩
    obtain rfl : t2 = e' := hS.1
    have c2 := blk_cell hR.blk 2
    simp at c2
    have HR := Lib.hid hR
    have HS := Lib.hid hS
    have HV := Lib.hid hV
    clear hR hV hS
    go_wp2_with fail
    go_loopw [6, 7] (fun o i wr => o = .slice none 0 0 ∧ i = .int .u64 0 ∧ w1 = wr) (fun _ _ _ => 0)
    case atStart => exact ⟨rfl, rfl, rfl⟩
    case round =>
      obtain ⟨rfl, rfl, rfl⟩ := hrel
      go_wp2_with fail
      go_ret
      exact ⟨_, rfl, World.ownsRow_nil _ _ _ _, k', t2, HR.out, HS.out, HV.out⟩

end W
end Go.Proofs.Ytlmbpbhdbgadjaa
