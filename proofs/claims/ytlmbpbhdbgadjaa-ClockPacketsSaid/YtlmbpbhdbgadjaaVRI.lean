/-
  The program's Reader: Int, lengths, Bytes, Ints.
-/
import Derived.Test.YtlmbpbhdbgadjaaVRU
import Derived.Laws.DeepNot64
namespace Go.Proofs.Ytlmbpbhdbgadjaa
open Go.RowKit
namespace W
open H
set_option linter.unusedVariables false

theorem and_one {u : Nat} (hu : u < 18446744073709551616) : bits .and .u64 (u : Int) 1 = ((u % 2 : Nat) : Int) := by
  have := bits_mask .u64 64 (by decide) wraps_u64 1 (by decide) (u : Int) (by omega) (by omega)
  simpa using this

set_option maxHeartbeats 1000000 in
theorem unfold_any (u : Nat) (w : World) (hu : u < 18446744073709551616) :
    Calls Try.prog 66 #[.int .u64 u] w fun e w' => e = .returned (.int .i64 (zag u)) ∧ w = w' := by
  by_cases h : u % 2 = 0
  · have h1 : (bits .and .u64 (u : Int) 1 == 1) = false := by rw [and_one hu, h]; rfl
    have H0 := Lib.hid h
    clear h
    go_enter Try.func66, Try.ntmps66
    go_wp2
    go_ret
    exact ⟨ret_int (by unfold zag; rw [if_pos H0.out]; omega), rfl⟩
  · have h1 : (bits .and .u64 (u : Int) 1 == 1) = true := by rw [and_one hu, show u % 2 = 1 from by omega]; rfl
    have H0 := Lib.hid h
    have hx : bits .xor .i64 (-1) ((u : Int) / 2) = -1 - ((u / 2 : Nat) : Int) := by
      rw [show ((u : Int) / 2) = ((u / 2 : Nat) : Int) from by omega]
      exact i64_not (u / 2) (by omega)
    have HX := Lib.hid hx
    clear h hx
    go_enter Try.func66, Try.ntmps66
    go_wp2
    go_ret
    exact ⟨ret_int (by rw [HX.out]; unfold zag; rw [if_neg H0.out]; omega), rfl⟩

theorem StOf.lt {w : World} {b : Nat} {A : Option Addr} {n c : Nat} {bs : List Int} {k : Nat} {e : Int} {s : St} (h : RAt w b A n c bs k e) (hs : StOf bs k e s) : (rU s).2 < 18446744073709551616 := by
  obtain ⟨s1, s2⟩ := s
  obtain ⟨rfl, h1⟩ := hs
  by_cases he : s2 = 0
  · have := h1 he
    simp only at this
    rw [this]
    exact rU_lt (fun x hx => h.byt x (List.mem_of_mem_drop hx)) _
  · rw [rU_err he]
    show 0 < 18446744073709551616
    decide

set_option maxHeartbeats 1000000 in
theorem int_rd {w : World} {b : Nat} {A : Option Addr} {n c : Nat} {bs : List Int} {k : Nat} {e : Int} {s : St} (h : RAt w b A n c bs k e) (hs : StOf bs k e s) :
    Calls Try.prog 59 #[.pointer (some ⟨b, 0, none⟩)] w fun r w' => r = .returned (.int .i64 (rI s).2) ∧ ∃ k' e', RAt w' b A n c bs k' e' ∧ StOf bs k' e' (rI s).1 ∧ Save (· = b) w w' := by
  have hu := uint_rd h hs
  have hlt := StOf.lt h hs
  unfold rI
  have hf := fun w => unfold_any (rU s).2 w hlt
  have HF := Lib.hid hf
  clear h hs hlt hf
  generalize rU s = t at hu HF ⊢
  go_enter Try.func59, Try.ntmps59
  go_wp2_with fail
  refine hu.mono ?_
  clear hu
  rintro r w1 ⟨rfl, k', e', hR, hS, hV⟩
  have HR := Lib.hid hR
  have HS := Lib.hid hS
  have HV := Lib.hid hV
  clear hR hS hV
  go_wp2_with fail
  refine (HF.out _).mono ?_
  rintro r w2 ⟨rfl, rfl⟩
  go_wp2_with fail
  go_ret
  exact ⟨rfl, k', e', HR.out, HS.out, HV.out⟩

set_option maxHeartbeats 1000000 in
theorem length_rd {w : World} {b : Nat} {A : Option Addr} {n c : Nat} {bs : List Int} {k : Nat} {e : Int} {s : St} (m : Int) (hm : -9223372036854775808 ≤ m ∧ m ≤ 9223372036854775807) (h : RAt w b A n c bs k e) (hs : StOf bs k e s) :
    Calls Try.prog 58 #[.pointer (some ⟨b, 0, none⟩), .int .i64 m] w fun r w' => r = .returned (.int .u64 (rS s m).2) ∧ ∃ k' e', RAt w' b A n c bs k' e' ∧ StOf bs k' e' (rS s m).1 ∧ Save (· = b) w w' := by
  have hu := uint_rd h hs
  have hlt := StOf.lt h hs
  unfold rS
  have hze : (rU s).1.2 ≠ 0 → (rU s).2 = 0 := fun h => by
    unfold rU at h ⊢
    split
    · rfl
    · rename_i h1
      rw [if_neg h1] at h
      rcases hr : rd 0 s.1 with x | ⟨n, r⟩
      · rfl
      · rw [hr] at h; exact absurd rfl h
  clear h hs
  generalize rU s = t at hu hze hlt ⊢
  obtain ⟨⟨t1, t2⟩, tu⟩ := t
  simp only at hu hze hlt ⊢
  have HZ := Lib.hid hze
  clear hze
  by_cases hm0 : m < 0
  · obtain ⟨x, hx⟩ : ∃ x : Int, (if t2 = 0 then (2 : Int) else t2) = x := ⟨_, rfl⟩
    have hval : (if t2 ≠ 0 then ((t1, t2), 0) else if m < (tu : Int) then ((t1, (2 : Int)), 0) else ((t1, t2), tu)) = ((t1, x), 0) := by
      rw [← hx]
      by_cases h2 : t2 = 0
      · rw [if_neg (by simpa using h2), if_pos (by omega), if_pos h2]
      · rw [if_pos h2, if_neg h2]
    rw [hval]
    have hx0 : x ≠ 0 := by rw [← hx]; split <;> omega
    have HX := Lib.hid hx
    have HX0 := Lib.hid hx0
    clear hval hx hx0
    go_enter Try.func58, Try.ntmps58
    go_wp2_with fail
    refine hu.mono ?_
    clear hu
    rintro r w1 ⟨rfl, k', e', hR, ⟨rfl, hS⟩, hV⟩
    have hfl := fail_rd 2 hR
    rw [HX.out] at hfl
    have HS := Lib.hid hS
    have HV := Lib.hid hV
    clear hR hS hV
    go_wp2_with fail
    refine hfl.mono ?_
    clear hfl
    rintro r w2 ⟨rfl, hR, hV2⟩
    have HR := Lib.hid hR
    have HV2 := Lib.hid hV2
    clear hR hV2
    go_wp2_with fail
    go_ret
    exact ⟨rfl, k', _, HR.out, ⟨rfl, fun h => absurd h HX0.out⟩, HV.out.trans HV2.out⟩
  · by_cases hlim : m < (tu : Int)
    · have ht2 : t2 = 0 := by
        rcases Decidable.em (t2 = 0) with h | h
        · exact h
        · have := HZ.out h; omega
      subst ht2
      have hval : (if (0 : Int) ≠ 0 then ((t1, (0 : Int)), 0) else if m < (tu : Int) then ((t1, (2 : Int)), 0) else ((t1, 0), tu)) = ((t1, (2 : Int)), 0) := by
        rw [if_neg (by simp), if_pos hlim]
      rw [hval]
      clear hval
      have hm1 : 0 ≤ m := by omega
      go_enter Try.func58, Try.ntmps58
      go_wp2_with fail
      refine hu.mono ?_
      clear hu
      rintro r w1 ⟨rfl, k', e', hR, ⟨rfl, hS⟩, hV⟩
      have hfl := fail_rd 2 hR
      have HS := Lib.hid hS
      have HV := Lib.hid hV
      clear hR hS hV
      go_wp2_with fail
      refine hfl.mono ?_
      clear hfl
      rintro r w2 ⟨rfl, hR, hV2⟩
      have HR := Lib.hid hR
      have HV2 := Lib.hid hV2
      clear hR hV2
      go_wp2_with fail
      go_ret
      exact ⟨rfl, k', 2, HR.out, ⟨rfl, fun h => by cases h⟩, HV.out.trans HV2.out⟩
    · have hval : (if t2 ≠ 0 then ((t1, t2), 0) else if m < (tu : Int) then ((t1, (2 : Int)), 0) else ((t1, t2), tu)) = ((t1, t2), tu) := by
        by_cases h2 : t2 = 0
        · rw [if_neg (by simpa using h2), if_neg hlim]
        · rw [if_pos h2, HZ.out h2]
      rw [hval]
      clear hval
      have hm1 : 0 ≤ m := by omega
      have hlim' : (tu : Int) ≤ m := by omega
      go_enter Try.func58, Try.ntmps58
      go_wp2_with fail
      refine hu.mono ?_
      clear hu
      rintro r w1 ⟨rfl, k', e', hR, ⟨rfl, hS⟩, hV⟩
      have HR := Lib.hid hR
      have HS := Lib.hid hS
      have HV := Lib.hid hV
      clear hR hS hV
      go_wp2_with fail
      go_ret
      exact ⟨rfl, k', t2, HR.out, ⟨rfl, HS.out⟩, HV.out⟩

end W
end Go.Proofs.Ytlmbpbhdbgadjaa
