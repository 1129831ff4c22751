/-
  For all two unsigned numbers and all two numbers, WirePrefix returns true: their encodings are equal only if the numbers are, and otherwise neither is a prefix of the other one.
  No condition.
-/
import Derived.Test.YtdfokmhpnniphaaWLives
import Derived.Test.YtdfokmhpnniphaaWWritten
import Derived.Test.YtdfokmhpnniphaaWRead
namespace Go.Proofs.Ytdfokmhpnniphaa.wirePrefix
open Go.ChangeShapes Go.WideShapes Go.ChangeAt Go.RowKit
open Go.ChangeMaps (open_string shut_string)
set_option linter.unusedVariables false
open W H in
/-- A list of one item, newly made. -/
theorem one_item (w : World) (k : Int) (u : Nat) (i : Int) :
    W.RdIt (w.alloc (.cells #[.int .i64 k, .int .u64 u, .int .i64 i, .slice none 0 0, .slice none 0 0, .int .i64 0] 53)) (w.alloc (.cells #[.int .i64 k, .int .u64 u, .int .i64 i, .slice none 0 0, .slice none 0 0, .int .i64 0] 53)).heap.size (some ⟨w.heap.size, 0, none⟩) [⟨k, u, i, none, 0, 0, [], none, 0, 0, [], 0⟩] := by
  intro j x hx
  rcases j with _ | j
  · injection hx with hx
    subst hx
    have hb := heap_alloc_new w (.cells #[.int .i64 k, .int .u64 u, .int .i64 i, .slice none 0 0, .slice none 0 0, .int .i64 0] 53)
    obtain ⟨p0, p1, p2, p3, p4, p5⟩ := W.cells6 hb
    have e0 : (⟨w.heap.size, 0, none⟩ : Addr).add (0 * 6) = ⟨w.heap.size, 0, none⟩ := rfl
    refine ⟨_, rfl, by simp, ?_⟩
    rw [e0]
    refine ⟨p0, ?_, ?_, ?_, ?_, ?_, RdI.nil, RdI.nil⟩
    all_goals rw [W.add_pos _ _ (by decide)]; simp only [Nat.zero_add]; assumption
  · cases hx

theorem enc_ne {a b : Nat} (ha : a < 18446744073709551616) (hb : b < 18446744073709551616) (hne : a ≠ b) : (W.encU a).take (min (W.encU a).length (W.encU b).length) ≠ (W.encU b).take (min (W.encU a).length (W.encU b).length) := by
  intro h
  rcases Nat.le_total (W.encU a).length (W.encU b).length with hl | hl
  · rw [Nat.min_eq_left hl, List.take_of_length_le (Nat.le_refl _)] at h
    have h2 := List.take_append_drop (W.encU a).length (W.encU b)
    rw [← h] at h2
    exact hne (W.encU_apart hb ha h2.symm).symm
  · rw [Nat.min_eq_right hl, List.take_of_length_le (l := W.encU b) (Nat.le_refl _)] at h
    have h2 := List.take_append_drop (W.encU b).length (W.encU a)
    rw [h] at h2
    exact hne (W.encU_apart ha hb h2.symm)


set_option maxRecDepth 100000 in
set_option maxHeartbeats 1000000 in
theorem walk (a0 : Int) (a1 : Int) (a2 : Int) (a3 : Int) (w : World) (w0 : (Lit.int .u64 a0).wf = true) (w1 : (Lit.int .u64 a1).wf = true) (w2 : (Lit.int .i64 a2).wf = true) (w3 : (Lit.int .i64 a3).wf = true) :
    Calls Try.prog 10 #[.int .u64 a0, .int .u64 a1, .int .i64 a2, .int .i64 a3] w fun e w' => e = .returned (.bool true) ∧ Below w.heap.size w w' := by
  obtain ⟨h00, h01⟩ := H.u64_range w0
  obtain ⟨h10, h11⟩ := H.u64_range w1
  have h2 := H.i64_range w2
  have h3 := H.i64_range w3
  obtain ⟨a, rfl⟩ : ∃ a : Nat, a0 = a := ⟨a0.toNat, by omega⟩
  obtain ⟨b, rfl⟩ : ∃ b : Nat, a1 = b := ⟨a1.toNat, by omega⟩
  have ha : a < 18446744073709551616 := by omega
  have hb : b < 18446744073709551616 := by omega
  clear w0 w1 w2 w3 h00 h01 h10 h11
  have len10 : ∀ n : Nat, n < 18446744073709551616 → (W.encU n).length ≤ 10 := fun n hn => W.encU_len 9 (Nat.lt_trans hn (by decide))
  -- what is written of one item
  have wr : ∀ (W1 : World) (k : Int) (u : Nat) (i : Int), (k = 0 ∨ k = 1) → u < 18446744073709551616 → (-9223372036854775808 ≤ i ∧ i ≤ 9223372036854775807) → Calls Try.prog 14 #[.slice (some ⟨W1.heap.size, 0, none⟩) 1 1]
      (W1.alloc (.cells #[.int .i64 k, .int .u64 u, .int .i64 i, .slice none 0 0, .slice none 0 0, .int .i64 0] 53)) fun e w' => ∃ v, e = .returned v ∧ W.OwnB W1 w' (W.encU (if k = 0 then u else W.zig i)) v := fun W1 k u i hk hu hi => by
    have hv : W.encAll ([(⟨k, u, i, none, 0, 0, [], none, 0, 0, [], 0⟩ : W.Itm)].map W.Itm.val) = W.encU (if k = 0 then u else W.zig i) := by
      show W.enc (W.Itm.val _) ++ [] = _
      rw [List.append_nil]
      unfold W.Itm.val
      rcases hk with rfl | rfl
      · rw [if_pos rfl, if_pos rfl]; rfl
      · rw [if_neg (show ¬ ((1 : Int) = 0) by decide), if_pos rfl, if_neg (show ¬ ((1 : Int) = 0) by decide)]; rfl
    have hlen : (W.encU (if k = 0 then u else W.zig i)).length ≤ 10 := by
      split
      · exact len10 _ hu
      · exact len10 _ (W.zig_lt hi)
    have := W.written_any (some ⟨W1.heap.size, 0, none⟩) 1 1 [⟨k, u, i, none, 0, 0, [], none, 0, 0, [], 0⟩] (W1.alloc (.cells #[.int .i64 k, .int .u64 u, .int .i64 i, .slice none 0 0, .slice none 0 0, .int .i64 0] 53)) rfl (by decide) (one_item W1 k u i)
      (fun x hx => by
        rw [List.mem_singleton] at hx
        subst hx
        exact ⟨W.Ok.of (by omega) hu hi (W.Bok.nil _) (W.Bok.nil _), Nat.zero_le _, Nat.zero_le _⟩) (by rw [hv]; omega) (fun x hx => by
        rw [List.mem_singleton] at hx
        subst hx
        exact Nat.zero_le _)
    rw [hv] at this
    have hB := (Below.refl W1.heap.size W1).alloc (Nat.le_refl _) (.cells #[.int .i64 k, .int .u64 u, .int .i64 i, .slice none 0 0, .slice none 0 0, .int .i64 0] 53)
    exact this.mono fun e w' ⟨v, he, ho, hb⟩ => ⟨v, he, ho.low hB.size, hB.trans (hb.mono hB.size)⟩
  have hcap : ∀ {W1 : World} {B : Nat} {A : Option Addr} {c : Nat} {xs : List Int}, W1.ownsRow B 5 1 (.slice A xs.length c) xs.length (xs.map (Value.int .u8)) → xs.length ≤ c ∧ c ≤ maxLen ∧ (A = none → c = 0) := fun h => ⟨(W.own_cap h).2.1, (W.own_cap h).2.2.1, (W.own_cap h).2.2.2.1⟩
  have ap : ∀ (W1 W2 : World) (x y : Nat) (e : Bool) (v v' : Value), x < 18446744073709551616 → y < 18446744073709551616 → (e = true → x = y) → (e = false → x ≠ y) → W.OwnB w W1 (W.encU x) v → W.OwnB W1 W2 (W.encU y) v' →
      Calls Try.prog 33 #[v, v', .bool e] W2 fun r w' => r = .returned (.bool true) ∧ Below W2.heap.size W2 w' := fun W1 W2 x y e v v' hx hy ht hf ho ho' => by
    obtain ⟨A, c, rfl⟩ := H.own_shape ho.1
    obtain ⟨A', c', rfl⟩ := H.own_shape ho'.1
    obtain ⟨k1, k2, k3⟩ := hcap ho.1
    obtain ⟨l1, l2, l3⟩ := hcap ho'.1
    have m1 := len10 x hx
    have m2 := len10 y hy
    exact W.apart_any A A' _ _ c c' _ _ e W2 rfl rfl (by omega) (by omega) k1 l1 (((H.own_RdI ho.1).below ho'.2).more ho'.2.size) (H.own_RdI ho'.1) (fun h => by rw [ht h]) (fun h => enc_ne hx hy (hf h)) k3 l3 k2 l2
  obtain ⟨e1, he1⟩ : ∃ e, ((a : Int) == (b : Int)) = e := ⟨_, rfl⟩
  obtain ⟨e2, he2⟩ : ∃ e, (a2 == a3) = e := ⟨_, rfl⟩
  have ht1 : e1 = true → a = b := fun h => by rw [h] at he1; have := beq_iff_eq.mp he1; omega
  have hf1 : e1 = false → a ≠ b := fun h => by rw [h] at he1; have := beq_eq_false_iff_ne.mp he1; omega
  have ht2 : e2 = true → W.zig a2 = W.zig a3 := fun h => by rw [h] at he2; rw [show a2 = a3 from by simpa using he2]
  have hf2 : e2 = false → W.zig a2 ≠ W.zig a3 := fun h h' => by rw [h] at he2; have := congrArg W.zag h'; rw [W.zag_zig, W.zag_zig] at this; simp [this] at he2
  have hc1 := wr w 0 a 0 (.inl rfl) ha (by decide)
  have hz2 := W.zig_lt h2
  have hz3 := W.zig_lt h3
  have WR := Lib.hid wr
  have AP := Lib.hid ap
  have HA := Lib.hid ha
  have HB := Lib.hid hb
  have H2 := Lib.hid h2
  have H3 := Lib.hid h3
  have Z2 := Lib.hid hz2
  have Z3 := Lib.hid hz3
  have T1 := Lib.hid ht1
  have F1 := Lib.hid hf1
  have T2 := Lib.hid ht2
  have F2 := Lib.hid hf2
  clear wr ap ha hb h2 h3 hz2 hz3 ht1 hf1 ht2 hf2 hcap len10
  go_enter Try.func10, Try.ntmps10
  go_wp2_with fail
  refine hc1.mono ?_
  clear hc1
  rintro r w1 ⟨v1, rfl, ho1⟩
  have hc2 := WR.out w1 0 b 0 (.inl rfl) HB.out (by decide)
  have HO1 := Lib.hid ho1
  clear ho1
  go_wp2_with fail
  refine hc2.mono ?_
  clear hc2
  rintro r w2 ⟨v2, rfl, ho2⟩
  have hc3 := AP.out w1 w2 a b e1 v1 v2 HA.out HB.out T1.out F1.out HO1.out ho2
  have HB2 := Lib.hid (HO1.out.2.trans (ho2.2.mono HO1.out.2.size))
  clear ho2 HO1
  go_wp2_with fail
  refine hc3.mono ?_
  clear hc3
  rintro r w3 ⟨rfl, hb3⟩
  have HB3 := Lib.hid (HB2.out.trans (hb3.mono HB2.out.size))
  have hc4 := WR.out w3 1 0 a2 (.inr rfl) (by decide) H2.out
  rw [if_neg (by decide)] at hc4
  clear hb3 HB2
  go_wp2_with fail
  refine hc4.mono ?_
  clear hc4
  rintro r w4 ⟨v4, rfl, ho4⟩
  have hc5 := WR.out w4 1 0 a3 (.inr rfl) (by decide) H3.out
  rw [if_neg (by decide)] at hc5
  have HO4 := Lib.hid ho4
  clear ho4
  go_wp2_with fail
  refine hc5.mono ?_
  clear hc5
  rintro r w5 ⟨v5, rfl, ho5⟩
  have hc6 := AP.out w4 w5 (W.zig a2) (W.zig a3) e2 v4 v5 Z2.out Z3.out T2.out F2.out ⟨HO4.out.1.low HB3.out.size, HB3.out.trans (HO4.out.2.mono HB3.out.size)⟩ ho5
  have HB5 := Lib.hid (HB3.out.trans ((HO4.out.2.trans (ho5.2.mono HO4.out.2.size)).mono HB3.out.size))
  clear ho5 HO4 HB3
  go_wp2_with fail
  refine hc6.mono ?_
  clear hc6
  rintro r w6 ⟨rfl, hb6⟩
  have HB6 := Lib.hid (HB5.out.trans (hb6.mono HB5.out.size))
  have hlv := W.lives_any w6
  clear hb6 HB5
  go_wp2_with fail
  refine hlv.mono ?_
  clear hlv
  rintro r w7 ⟨rfl, hb7⟩
  have HB7 := Lib.hid (HB6.out.trans (hb7.mono HB6.out.size))
  clear hb7
  go_wp2_with fail
  go_ret
  exact ⟨rfl, HB7.out⟩

set_option maxRecDepth 100000 in
theorem lifted (os : Os) (started : os.Started) (H0 : Type) (enc : TypeId × Value → H0) :
    ReturnsInHanded {} Try.checked os 10 .any (Rows.wirePrefixSpec.pre6 enc Try.prog Try.f10 Rows.wirePrefixRow.domain false) (Rows.wirePrefixSpec.post enc Try.prog Try.f10 false true false false) := by
  refine returnsInHanded_of_change_sized (C := Try.checked) Go.Proofs.Ytdfokmhpnniphaa.W.own started (by kernel_rfl) Try.func10
    (ChangeSpec.witness6 (enc := enc) (C := Try.checked) false ⟨#[], #[.int .u64 0, .int .u64 0, .int .i64 0, .int .i64 0], []⟩ 8 (by kernel_rfl) (by kernel_rfl) (by kernel_rfl) (by kernel_rfl)) ?_
  intro W base args ds gs before hval0 hW hcnd hsz0 _
  have hsz : (DataW.weightsEach Try.prog (Try.f10.params.toList ++ Rows.wirePrefixSpec.plain.varTypes Try.prog) (ds ++ gs)).all (· ≤ reachBytes) = true := hsz0
  clear hsz0
  have hval : ∀ (j : Nat) t v, Try.f10.params[j]? = some t → args[j]? = some v → Value.okWide Try.prog W .any base t v := hval0
  have hW' := hW
  obtain ⟨p, q, hA0, hV, rfl, hfz, hnd⟩ := hW
  have hA : DataW.TrodAll enc Try.prog W 0 (fun _ => true) true Try.f10.params.toList args.toList ds p := hA0
  rw [Try.params10] at hA hval hsz
  obtain ⟨v0, vs0, d0, ds0, p0, q0, hargs, rfl, rfl, h0, r0⟩ := trodAll_cons hA
  obtain ⟨v1, vs1, d1, ds1, p1, q1, rfl, rfl, rfl, h1, r1⟩ := trodAll_cons r0
  obtain ⟨v2, vs2, d2, ds2, p2, q2, rfl, rfl, rfl, h2, r2⟩ := trodAll_cons r1
  obtain ⟨v3, vs3, d3, ds3, p3, q3, rfl, rfl, rfl, h3, r3⟩ := trodAll_cons r2
  obtain ⟨rfl, rfl, rfl⟩ := trodAll_nil r3
  obtain rfl : args = #[v0, v1, v2, v3] := by cases args; simp_all
  obtain ⟨rfl, rfl⟩ := trodVars_none hV
  obtain ⟨a0, rfl, rfl, rfl, w0⟩ := open_int Try.underlying30 (hval 0 30 v0 rfl rfl) h0
  obtain ⟨a1, rfl, rfl, rfl, w1⟩ := open_int Try.underlying30 (hval 1 30 v1 rfl rfl) h1
  obtain ⟨a2, rfl, rfl, rfl, w2⟩ := open_int Try.underlying3 (hval 2 3 v2 rfl rfl) h2
  obtain ⟨a3, rfl, rfl, rfl, w3⟩ := open_int Try.underlying3 (hval 3 3 v3 rfl rfl) h3
  clear hA0 hval0
  refine (walk a0 a1 a2 a3 W w0 w1 w2 w3).mono fun e W' ⟨he, bel⟩ => ?_
  subst he
  exact ⟨_, rfl, _, _, _, [], _, [], hW', trodAll_mk1 (shut_bool Try.underlying4 _), (trodAll_cons_mk (shut_int Try.underlying30 w0) (trodAll_cons_mk (shut_int Try.underlying30 w1) (trodAll_cons_mk (shut_int Try.underlying3 w2) (trodAll_cons_mk (shut_int Try.underlying3 w3) trodAll_mk0)))), rfl, bel.frame _, fun h => by cases h⟩

/-- ████ THE STATEMENT ████ -/
theorem proved : Rows.WirePrefixSaid :=
  OpenClaim.holds_of_wide 10 Try.f10 rfl rfl rfl rfl rfl rfl rfl ⟨rfl, rfl, rfl, rfl, rfl⟩ rfl rfl rfl rfl rfl (by kernel_rfl) Try.func10 (by kernel_rfl)
    (of_decide_eq_true (by kernel_rfl)) (by unfold Func.isWrapper; first | (rw [if_pos (by decide +kernel)]; kernel_rfl) | (rw [if_neg (by decide +kernel)]; exact ⟨rfl, rfl⟩))
    (fun os started H0 enc _ => lifted os started H0 enc)
end Go.Proofs.Ytdfokmhpnniphaa.wirePrefix
