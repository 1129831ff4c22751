/-
  The specification's readers: fail, the reading of a number.
-/
import Derived.Test.YtdfokmhpnniphaaWEnc
namespace Go.Proofs.Ytdfokmhpnniphaa
open Go.RowKit
namespace W
open H
set_option linter.unusedVariables false

/-- A reader as a value. -/
def rdr (A : Option Addr) (n c : Nat) (e : Int) : Value := .agg #[.slice A n c, .int .i64 e]

set_option maxHeartbeats 1000000 in
theorem fail_any (A : Option Addr) (n c : Nat) (e x : Int) (w : World) :
    Calls Try.prog 46 #[rdr A n c e, .int .i64 x] w fun r w' => r = .returned (rdr A n c (if e = 0 then x else e)) ∧ Below w.heap.size w w' := by
  unfold rdr
  by_cases h : e = 0
  · have h1 : (e == 0) = true := by simpa using h
    rw [if_pos h]
    clear h
    go_enter Try.func46, Try.ntmps46
    go_wp2
    exact bodyPost_ret (v := .agg #[.slice A n c, .int .i64 x]) (by simp [results, Try.results46, go_sem]) rfl ⟨rfl, ((Below.refl _ _).alloc (Nat.le_refl _) _).alloc (by simp) _⟩
  · have h1 : (e == 0) = false := by simpa using h
    rw [if_neg h]
    clear h
    go_enter Try.func46, Try.ntmps46
    go_wp2
    exact bodyPost_ret (v := .agg #[.slice A n c, .int .i64 e]) (by simp [results, Try.results46, go_sem]) rfl ⟨rfl, ((Below.refl _ _).alloc (Nat.le_refl _) _).alloc (by simp) _⟩

theorem bcell {W w1 : World} (hb : Below W.heap.size W w1) : (∀ b o, b < W.heap.size → w1.cell? ⟨b, o, none⟩ = W.cell? ⟨b, o, none⟩) ∧ (∀ b o, b < W.heap.size → w1.frozen? ⟨b, o, none⟩ = W.frozen? ⟨b, o, none⟩) :=
  ⟨fun b o h => hb.cell (p := ⟨b, o, none⟩) h, fun b o h => hb.frozen (p := ⟨b, o, none⟩) h⟩

/-- How far the reading of a number has come. -/
def Mid (bs : List Int) (k acc : Nat) : Prop :=
  k ≤ 9 ∧ acc < 128 ^ k ∧ rd 0 bs = match rd k (bs.drop k) with
    | .ok (m, rest) => .ok (acc + 128 ^ k * m, rest)
    | .error e => .error e
theorem Mid.start (bs : List Int) : Mid bs 0 0 := by
  refine ⟨by omega, by simp, ?_⟩
  rw [List.drop_zero]
  rcases rd 0 bs with e | ⟨m, r⟩ <;> simp

theorem getElem?_drop0 {bs : List Int} {k : Nat} {c : Int} (h : bs[k]? = some c) : bs.drop k = c :: bs.drop (k + 1) := by
  have hk := (List.getElem?_eq_some_iff.1 h).1
  rw [List.drop_eq_getElem_cons hk]
  congr 1
  exact (List.getElem?_eq_some_iff.1 h).2
theorem Mid.short {bs : List Int} {k acc : Nat} (h : Mid bs k acc) (hk : bs.length ≤ k) : rd 0 bs = .error 6 := by
  rw [h.2.2, List.drop_of_length_le hk, rd_nil]
theorem Mid.bad {bs : List Int} {k acc : Nat} (h : Mid bs k acc) {c : Int} (hc : bs[k]? = some c) (hb : (k = 9 ∧ c ≠ 1) ∨ (0 < k ∧ c = 0)) : rd 0 bs = .error 7 := by
  rw [h.2.2, getElem?_drop0 hc, rd_bad hb]
theorem Mid.last {bs : List Int} {k acc : Nat} (h : Mid bs k acc) {c : Int} (hc : bs[k]? = some c) (hb : ¬ ((k = 9 ∧ c ≠ 1) ∨ (0 < k ∧ c = 0))) (hl : c < 128) : rd 0 bs = .ok (acc + 128 ^ k * c.toNat, bs.drop (k + 1)) := by
  rw [h.2.2, getElem?_drop0 hc, rd_last hb hl]
theorem Mid.next {bs : List Int} {k acc : Nat} (h : Mid bs k acc) {c : Int} (hc : bs[k]? = some c) (hk : k < 9) (hl : 128 ≤ c) : Mid bs (k + 1) (acc + 128 ^ k * (c % 128).toNat) := by
  obtain ⟨_, h1, h2⟩ := h
  refine ⟨by omega, ?_, ?_⟩
  · rw [Nat.pow_succ]
    have h3 : (c % 128).toNat ≤ 127 := by omega
    have h4 := Nat.mul_le_mul_left (128 ^ k) h3
    omega
  · rw [h2, getElem?_drop0 hc, rd_more hk hl]
    rcases rd (k + 1) (bs.drop (k + 1)) with e | ⟨m, r⟩
    · rfl
    · simp only
      rw [Nat.mul_add, Nat.pow_succ, Nat.mul_assoc, Nat.add_assoc]

theorem pow_le {k : Nat} (h : k ≤ 9) : 128 ^ k ≤ 9223372036854775808 := by
  have := Nat.pow_le_pow_right (n := 128) (by omega) h
  have e : (128 : Nat) ^ 9 = 9223372036854775808 := by decide
  omega
/-- The sum as the program computes it. -/
theorem acc_val {acc P : Nat} {z : Int} (h : acc + P * (z % 128).toNat < 18446744073709551616) :
    IntKind.u64.wrap ((acc : Int) + IntKind.u64.wrap (z % 128 * (P : Int))) = ((acc + P * (z % 128).toNat : Nat) : Int) := by
  have e : z % 128 * (P : Int) = ((P * (z % 128).toNat : Nat) : Int) := by
    rw [Int.natCast_mul, Int.toNat_of_nonneg (by omega), Int.mul_comm]
  rw [e, IntKind.wrap_u64, IntKind.wrap_u64]
  generalize P * (z % 128).toNat = M at h ⊢
  omega
theorem RdI.cut {w : World} {B : Nat} {k : IntKind} {ad : Addr} {zs : List Int} (h : RdI w B k (some ad) zs) (m : Nat) : RdI w B k (some (ad.add m)) (zs.drop m) := by
  intro j hj
  rw [List.length_drop] at hj
  obtain ⟨ad', e, hb, hc⟩ := h (m + j) (by omega)
  cases e
  have e2 : (ad.add m).add j = ad.add (m + j) := by
    unfold Addr.add
    by_cases hi : m = 0 <;> by_cases hj : j = 0 <;> simp [hi, hj, Nat.add_assoc]
  refine ⟨_, rfl, by rw [add_block]; exact hb, ?_⟩
  rw [e2, hc, List.getElem?_drop]

/-- What a reading leaves: the reader, the number, and that nothing that was there has changed. -/
def RdPost (w : World) (B : Nat) (s : St) (mk : Value) (r : Ending) (w' : World) : Prop :=
  ∃ A n c, r = .returned (.tuple #[rdr A n c s.2, mk]) ∧ s.1.length = n ∧ n ≤ c ∧ c ≤ maxLen ∧ (A = none → c = 0) ∧ RdI w' B .u8 A s.1 ∧ Below w.heap.size w w'

theorem fail0 (A : Option Addr) (n c : Nat) (x : Int) (w : World) :
    Calls Try.prog 46 #[.agg #[.slice A n c, .int .i64 0], .int .i64 x] w fun r w' => r = .returned (.agg #[.slice A n c, .int .i64 x]) ∧ Below w.heap.size w w' := by
  have h := fail_any A n c 0 x w
  unfold rdr at h
  rw [if_pos rfl] at h
  exact h
theorem post_err {B : Nat} {A : Option Addr} {n c : Nat} {bs : List Int} {x : Int} {w w1 : World} (h : rd 0 bs = .error x) (hl : bs.length = n) (hc : n ≤ c) (hcm : c ≤ maxLen) (hnil : A = none → c = 0) (hr : RdI w B .u8 A bs) (hBw : B ≤ w.heap.size) (hB : Below w.heap.size w w1) :
    RdPost w B (rU (bs, 0)).1 (.int .u64 (rU (bs, 0)).2) (.returned (.tuple #[.agg #[.slice A n c, .int .i64 x], .int .u64 0])) w1 := by
  rw [rU_no h]
  exact ⟨A, n, c, rfl, hl, hc, hcm, hnil, hr.below (hB.mono hBw), hB⟩

theorem post_ok {B : Nat} {ad : Addr} {n c : Nat} {bs : List Int} {k acc P : Nat} {z : Int} {w w1 : World} (hM : Mid bs k acc) (hP : 128 ^ k = P) (hb : Byt bs) (hz : bs[k]? = some z) (hg : ¬ ((k = 9 ∧ z ≠ 1) ∨ (0 < k ∧ z = 0))) (hl : z < 128) (hn : bs.length = n) (hc : n ≤ c) (hcm : c ≤ maxLen)
    (hr : RdI w B .u8 (some ad) bs) (hBw : B ≤ w.heap.size) (hB : Below w.heap.size w w1) {A' : Option Addr} {c' : Nat} (hA : (A' = some (ad.add (k + 1)) ∧ c' = c - (k + 1)) ∨ (n = k + 1 ∧ c' = 0)) :
    RdPost w B (rU (bs, 0)).1 (.int .u64 (rU (bs, 0)).2) (.returned (.tuple #[.agg #[.slice A' (n - (k + 1)) c', .int .i64 0], .int .u64 (IntKind.u64.wrap ((acc : Int) + IntKind.u64.wrap (z % 128 * (P : Int))))])) w1 := by
  have hzb := hb z (List.mem_of_getElem? hz)
  have h := hM.last hz hg hl
  obtain ⟨_, _, h3⟩ := rd_canon bs 0 _ _ hb (by omega) h
  have e0 : (z % 128).toNat = z.toNat := by omega
  have hlt : acc + P * (z % 128).toNat < 18446744073709551616 := by
    rw [e0, ← hP]
    have : (2 : Nat) * 128 ^ (9 - 0) = 18446744073709551616 := by decide
    omega
  rw [rU_ok h, acc_val hlt, e0, hP]
  refine ⟨A', n - (k + 1), c', rfl, by simp [hn], ?_, ?_, ?_, ?_, hB⟩
  · rcases hA with ⟨_, e⟩ | ⟨e, _⟩ <;> omega
  · rcases hA with ⟨_, e⟩ | ⟨_, e⟩ <;> omega
  · rintro e0
    rcases hA with ⟨e, _⟩ | ⟨_, e⟩
    · rw [e0] at e; cases e
    · exact e
  · rcases hA with ⟨e, _⟩ | ⟨e, _⟩
    · rw [e]
      exact (RdI.cut hr (k + 1)).below (hB.mono hBw)
    · have e1 : bs.drop (k + 1) = [] := List.drop_of_length_le (by omega)
      show RdI w1 B .u8 A' (bs.drop (k + 1))
      rw [e1]
      exact RdI.nil

set_option maxRecDepth 100000 in
set_option maxHeartbeats 1000000 in
theorem rduint_any (B : Nat) (A : Option Addr) (n c : Nat) (bs : List Int) (e : Int) (w : World) (hBw : B ≤ w.heap.size) (hb : Byt bs) (hl : bs.length = n) (hn : n ≤ 140737488351232) (hc : n ≤ c) (hcm : c ≤ maxLen) (hnil : A = none → c = 0) (hr : RdI w B .u8 A bs) :
    Calls Try.prog 20 #[rdr A n c e] w (RdPost w B (rU (bs, e)).1 (.int .u64 (rU (bs, e)).2)) := by
  have HCM := Lib.hid hcm
  have HNIL := Lib.hid hnil
  clear hnil
  unfold maxLen at hcm
  by_cases he : e = 0
  · subst he
    have HL := Lib.hid hl
    have HR := Lib.hid hr
    have HB := Lib.hid hb
    clear hl hr hb
    have hBL : Below w.heap.size w ((w.alloc (.cells #[.slice A n c, .int .i64 0] 35)).alloc (.cells #[.slice none 0 0, .int .i64 0] 35)) := ((Below.refl _ _).alloc (Nat.le_refl _) _).alloc (by simp) _
    have HR2 := Lib.hid (HR.out.below (hBL.mono hBw))
    clear hBL
    unfold rdr
    go_enter Try.func20, Try.ntmps20
    go_wp2
    go_loop [4, 5, 6] (fun a p i => ∃ k acc : Nat, i = .int .i64 k ∧ a = .int .u64 acc ∧ p = .int .u64 ((128 ^ k : Nat) : Int) ∧ Mid bs k acc) (fun _ _ i => 10 - (intOf i).toNat)
    case atStart => exact ⟨0, 0, rfl, rfl, rfl, Mid.start bs⟩
    case round =>
      obtain ⟨k, acc, rfl, rfl, rfl, hM⟩ := hrel
      have hk9 := hM.1
      have HM := Lib.hid hM
      clear hM
      generalize hP : 128 ^ k = P
      have HP := Lib.hid hP
      clear hP
      by_cases hlt : k < n
      · have hi' : k < bs.length := by rw [HL.out]; exact hlt
        obtain ⟨ad, rfl, _, hx⟩ := HR2.out k hi'
        have gz : bs[k]? = some (bs[k]?.getD 0) := by rw [List.getElem?_eq_getElem hi']; rfl
        have hzz := HB.out (bs[k]?.getD 0) (by rw [List.getElem?_eq_getElem hi']; exact List.getElem_mem _)
        generalize bs[k]?.getD 0 = z at hx gz hzz
        have GZ := Lib.hid gz
        have hz0 := hzz.1
        have hz1 := hzz.2
        clear gz hi' hzz
        have hcase : ((((k : Int) == 9) = true ∧ (z != 1) = true) ∨ (((k : Int) == 9) = false ∧ 0 < k ∧ (z == 0) = true)) ∨
            ((z < 128 ∨ 128 ≤ z) ∧ ((((k : Int) == 9) = true ∧ 0 < k ∧ (z != 1) = false ∧ (z == 0) = false ∧ z < 128) ∨ (((k : Int) == 9) = false ∧ 0 < k ∧ (z == 0) = false) ∨ (((k : Int) == 9) = false ∧ k < 1))) := by
          simp only [beq_iff_eq, bne_iff_ne, beq_eq_false_iff_ne, bne_eq_false_iff_eq]
          omega
        rcases hcase with hbad | ⟨hz, hok⟩
        · have h7 := HM.out.bad GZ.out (by
            simp only [beq_iff_eq, bne_iff_ne, beq_eq_false_iff_ne] at hbad
            omega)
          have H7 := Lib.hid h7
          clear h7
          rcases hbad with ⟨g9, g1⟩ | ⟨g9, gk, g0⟩
          all_goals
            go_wp2_with fail
            refine (fail0 (some ad) n c 7 _).mono ?_
            rintro e w1 ⟨rfl, hb1⟩
            obtain ⟨hc1, hf1⟩ := bcell hb1
            have hz1 : w.heap.size + 1 < w1.heap.size := by have := hb1.size; simp at this; omega
            go_wp2
            refine bodyPost_ret (v := .tuple #[.agg #[.slice (some ad) n c, .int .i64 7], .int .u64 0]) (by simp [results, Try.results20, go_sem, hc1]) rfl (post_err H7.out HL.out hc HCM.out HNIL.out HR.out hBw ?_)
            exact ((((((Below.refl _ w).alloc (Nat.le_refl _) _).alloc (by simp) _).trans (hb1.mono (by simp; omega))).setCell (by simp) _).setCell (by simp) _)
        · have hg : ¬ ((k = 9 ∧ z ≠ 1) ∨ (0 < k ∧ z = 0)) := by
            simp only [beq_iff_eq, beq_eq_false_iff_ne, bne_eq_false_iff_eq] at hok
            omega
          have HG := Lib.hid hg
          clear hg
          by_cases hzl : z < 128
          · have HZL := Lib.hid hzl
            have hzl' : ¬ 128 ≤ z := by omega
            have hnc : n = k + 1 ∨ k + 1 < c := by omega
            rcases Nat.lt_or_ge (k + 1) c with hck | hck
            · have HA : some (⟨ad.block, ad.off + (k + 1), none⟩ : Addr) = some (ad.add (k + 1)) := by unfold Addr.add; rw [if_neg (by omega)]
              have HA' := Lib.hid HA
              clear HA hnc
              rcases hok with ⟨g9, gk, g1, g0, gz⟩ | ⟨g9, gk, g0⟩ | ⟨g9, gk⟩
              all_goals
                go_wp2
                refine bodyPost_ret (v := .tuple #[.agg #[.slice (some ⟨ad.block, ad.off + (k + 1), none⟩) (n - (k + 1)) (c - (k + 1)), .int .i64 0], .int .u64 (IntKind.u64.wrap ((acc : Int) + IntKind.u64.wrap (z % 128 * (P : Int))))]) (by simp [results, Try.results20, go_sem]) rfl ?_
                exact post_ok HM.out HP.out HB.out GZ.out HG.out HZL.out HL.out hc HCM.out HR.out hBw (((Below.refl _ _).alloc (Nat.le_refl _) _).alloc (by simp) _) (.inl ⟨HA'.out, rfl⟩)
            · have hn1 : n = k + 1 := by omega
              have HN1 := Lib.hid hn1
              clear hn1 hnc
              rcases hok with ⟨g9, gk, g1, g0, gz⟩ | ⟨g9, gk, g0⟩ | ⟨g9, gk⟩
              all_goals
                go_wp2
                refine bodyPost_ret (v := .tuple #[.agg #[.slice (some ad) (n - (k + 1)) 0, .int .i64 0], .int .u64 (IntKind.u64.wrap ((acc : Int) + IntKind.u64.wrap (z % 128 * (P : Int))))]) (by simp [results, Try.results20, go_sem]) rfl ?_
                exact post_ok HM.out HP.out HB.out GZ.out HG.out HZL.out HL.out hc HCM.out HR.out hBw (((Below.refl _ _).alloc (Nat.le_refl _) _).alloc (by simp) _) (.inr ⟨HN1.out, rfl⟩)
          · have hk9 : k < 9 := by
              simp only [beq_iff_eq, beq_eq_false_iff_ne, bne_eq_false_iff_eq] at hok
              omega
            have hnx := HM.out.next GZ.out hk9 (by omega)
            have HNX := Lib.hid hnx
            clear hnx
            rcases hok with ⟨g9, gk, g1, g0, gz⟩ | ⟨g9, gk, g0⟩ | ⟨g9, gk⟩
            · exact absurd gz hzl
            all_goals
              go_wp2
              go_round
              case rel =>
                have hle := pow_le (k := k + 1) (by omega)
                have hac := HNX.out.2.1
                rw [HP.out] at hac
                refine ⟨k + 1, acc + P * (z % 128).toNat, by go_num, ?_, ?_, by rw [← HP.out]; exact HNX.out⟩
                · exact congrArg (Value.int .u64) (acc_val (by omega))
                · rw [Nat.pow_succ, HP.out] at hle ⊢
                  refine congrArg (Value.int .u64) ?_
                  rw [IntKind.wrap_u64]
                  omega
              case measure => simp [intOf]; omega
      · have h6 := HM.out.short (by rw [HL.out]; omega)
        have H6 := Lib.hid h6
        clear h6
        go_wp2_with fail
        refine (fail0 A n c 6 _).mono ?_
        rintro e w1 ⟨rfl, hb1⟩
        obtain ⟨hc1, hf1⟩ := bcell hb1
        have hz1 : w.heap.size + 1 < w1.heap.size := by have := hb1.size; simp at this; omega
        go_wp2
        refine bodyPost_ret (v := .tuple #[.agg #[.slice A n c, .int .i64 6], .int .u64 0]) (by simp [results, Try.results20, go_sem, hc1]) rfl (post_err H6.out HL.out hc HCM.out HNIL.out HR.out hBw ?_)
        exact ((((((Below.refl _ w).alloc (Nat.le_refl _) _).alloc (by simp) _).trans (hb1.mono (by simp; omega))).setCell (by simp) _).setCell (by simp) _)
  · have h1 : (e != 0) = true := by simpa using he
    have hU : rU (bs, e) = ((bs, e), 0) := rU_err he
    rw [hU]
    clear hU he
    have HL := Lib.hid hl
    have HR := Lib.hid hr
    clear hl hr hb
    unfold rdr
    go_enter Try.func20, Try.ntmps20
    go_wp2
    refine bodyPost_ret (v := .tuple #[.agg #[.slice A n c, .int .i64 e], .int .u64 0]) (by simp [results, Try.results20, go_sem]) rfl ?_
    have hB : Below w.heap.size w ((w.alloc (.cells #[.slice A n c, .int .i64 e] 35)).alloc (.cells #[.slice A n c, .int .i64 e] 35)) := ((Below.refl _ _).alloc (Nat.le_refl _) _).alloc (by simp) _
    exact ⟨A, n, c, rfl, HL.out, hc, HCM.out, HNIL.out, HR.out.below (hB.mono hBw), hB⟩

end W
end Go.Proofs.Ytdfokmhpnniphaa
