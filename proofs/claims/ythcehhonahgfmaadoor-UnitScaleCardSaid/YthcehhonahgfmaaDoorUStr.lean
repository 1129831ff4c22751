/-
  Strings as lists of bytes; the decimal numeral of the specification's helper Decimal.
-/
import Derived.Test.YthcehhonahgfmaaDoorKit
import Derived.Test.YthcehhonahgfmaaDoorProg
import Derived.Lib.ItoaNum
import Derived.Deep.LoopGhost
namespace Go.Proofs.YthcehhonahgfmaaDoor
open Go.RowKit
namespace U
open H
set_option linter.unusedVariables false

theorem ba_ext {b : ByteArray} {l : List UInt8} (h : b.data.toList = l) : b = ⟨l.toArray⟩ := by
  rcases b with ⟨⟨xs⟩⟩
  exact congrArg ByteArray.mk (congrArg Array.mk h)
theorem ba_append (a b : ByteArray) : (a ++ b).data.toList = a.data.toList ++ b.data.toList := by rw [ByteArray.data_append, Array.toList_append]
theorem ba_size (b : ByteArray) : b.size = b.data.toList.length := rfl
theorem piece_fin : ∀ i : Fin 10, ((⟨#[48, 49, 50, 51, 52, 53, 54, 55, 56, 57]⟩ : ByteArray).extract i.val (i.val + 1)).data.toList = [UInt8.ofNat (48 + i.val)] := by decide +kernel
/-- What the loop over the digits keeps. -/
def DInv (n k : Int) (l : List UInt8) : Prop := (k.natAbs ≤ n.natAbs ∧ (0 < k → 0 < n)) ∧ ((k = 0 ∧ l = Lib.decDigits n.natAbs) ∨ (k ≠ 0 ∧ Lib.decDigits k.natAbs ++ l = Lib.decDigits n.natAbs))
theorem dec_step {u : Nat} (h : ¬ u < 10) : Lib.decDigits u = Lib.decDigits (u / 10) ++ [UInt8.ofNat (48 + u % 10)] := by
  conv => lhs; rw [Lib.decDigits, dif_neg h]
theorem DInv.done {n : Int} {l : List UInt8} (h : DInv n 0 l) : l = Lib.decDigits n.natAbs := by
  rcases h.2 with ⟨_, h⟩ | ⟨h, _⟩
  · exact h
  · exact absurd rfl h
theorem dec_len {u : Nat} (h : u < 10 ^ 19) : (Lib.decDigits u).length ≤ 19 := by
  rw [Lib.decDigits_length]
  by_cases h0 : u < 10
  · rw [Lib.nDigits_small h0]; omega
  · have hp := Lib.nDigits_pos u
    by_cases hk : Lib.nDigits u ≤ 19
    · exact hk
    · exfalso
      have hlow : ∀ v, ¬ v < 10 → 10 ^ (Lib.nDigits v - 1) ≤ v := by
        intro v
        induction v using Nat.strongRecOn with
        | _ v ih =>
          intro hv
          rw [Lib.nDigits_big hv]
          by_cases h1 : v / 10 < 10
          · rw [Lib.nDigits_small h1]; omega
          · have := ih (v / 10) (by omega) h1
            have hp2 := Lib.nDigits_pos (v / 10)
            obtain ⟨m, hm⟩ : ∃ m, Lib.nDigits (v / 10) = m + 1 := ⟨Lib.nDigits (v / 10) - 1, by omega⟩
            rw [hm] at this ⊢
            simp only [Nat.add_sub_cancel] at this ⊢
            rw [Nat.pow_succ]
            omega
      have h3 := hlow u h0
      have h4 : 10 ^ 19 ≤ 10 ^ (Lib.nDigits u - 1) := Nat.pow_le_pow_right (by decide) (by omega)
      omega

theorem DInv.next {n k q : Int} {b : ByteArray} {i j d : Nat} (h : DInv n k b.data.toList) (hk : k ≠ 0) (hs : 0 < q → 0 < k) (hq : q.natAbs = k.natAbs / 10) (hd : d = k.natAbs % 10) (hi : i = d) (hj : j = d + 1) :
    DInv n q ((⟨#[48, 49, 50, 51, 52, 53, 54, 55, 56, 57]⟩ : ByteArray).extract i j ++ b).data.toList := by
  subst hi hj
  have hp := piece_fin ⟨i, by omega⟩
  simp only at hp
  rw [ba_append, hp]
  have h2 : Lib.decDigits k.natAbs ++ b.data.toList = Lib.decDigits n.natAbs := by
    rcases h.2 with ⟨h, _⟩ | ⟨_, h⟩
    · exact absurd h hk
    · exact h
  refine ⟨⟨by have := h.1; omega, fun h' => h.1.2 (hs h')⟩, ?_⟩
  by_cases h10 : k.natAbs < 10
  · refine .inl ⟨by omega, ?_⟩
    rw [← h2, Lib.decDigits_one h10, hd, Nat.mod_eq_of_lt h10]
  · refine .inr ⟨by omega, ?_⟩
    rw [← h2, dec_step h10, hq, ← hd, List.append_assoc]
theorem tdiv_pos {k : Int} (h : 0 < k.tdiv 10) : 0 < k := by
  by_cases hk : 0 < k
  · exact hk
  · have h2 : k.tdiv 10 = -((-k).tdiv 10) := by rw [Int.neg_tdiv]; omega
    have h3 : 0 ≤ (-k).tdiv 10 := Int.tdiv_nonneg (by omega) (by omega)
    omega
theorem DInv.len {n k : Int} {b : ByteArray} (h : DInv n k b.data.toList) (hn : n.natAbs < 10 ^ 19) : b.size ≤ 20 := by
  have hl := dec_len hn
  have h2 : b.data.toList.length ≤ (Lib.decDigits n.natAbs).length := by
    rcases h.2 with ⟨_, h⟩ | ⟨_, h⟩
    · rw [h]; exact Nat.le_refl _
    · rw [← h, List.length_append]; omega
  rw [ba_size]
  omega

set_option maxRecDepth 100000 in
set_option maxHeartbeats 1000000 in
theorem rdec_any (n : Int) (w : World) (hn : -9223372036854775808 ≤ n ∧ n ≤ 9223372036854775807) :
    Calls Tryd.prog 40 #[.int .i64 n] w fun r w' => r = .returned (.string ⟨(Lib.itoa n).toArray⟩) ∧ w' = w := by
  by_cases h0 : n = 0
  · subst h0
    go_enter Tryd.func40, Tryd.ntmps40
    go_wp2_with fail
    go_ret
    have e : Lib.itoa 0 = [48] := by
      show Lib.decDigits 0 = [48]
      rw [Lib.decDigits_one (by decide)]
      rfl
    exact ⟨by rw [e]; rfl, rfl⟩
  · have h0b : (n == 0) = false := by simp [h0]
    have HN := Lib.hid h0
    clear h0
    go_enter Tryd.func40, Tryd.ntmps40
    go_wp2_with fail
    go_loopg [4, 5] n.natAbs (fun g x i wr => ∃ (k : Int) (b : ByteArray), k.natAbs ≤ g ∧ x = .string b ∧ i = .int .i64 k ∧ DInv n k b.data.toList ∧ wr = w)
    case atStart => exact ⟨n, _, Nat.le_refl _, rfl, rfl, ⟨⟨Nat.le_refl _, id⟩, .inr ⟨HN.out, List.append_nil _⟩⟩, rfl⟩
    case round =>
      obtain ⟨k, b, hg, rfl, rfl, hd, rfl⟩ := hrel
      have hk1 : -9223372036854775808 ≤ k := by have := hd.1; omega
      have hk2 : k ≤ 9223372036854775807 := by have := hd.1.1; have := hd.1.2; omega
      have hbz : b.size ≤ 20 := hd.len (by omega)
      by_cases hk : k = 0
      · subst hk
        have hb := ba_ext (hd.done)
        clear hd hg hk1 hk2
        by_cases hneg : n < 0
        · have HI := Lib.hid (show (⟨#[45]⟩ : ByteArray) ++ b = ⟨(Lib.itoa n).toArray⟩ by
            apply ba_ext
            rw [ba_append, hb]
            unfold Lib.itoa
            rw [if_pos hneg]
            rfl)
          clear hb
          go_wp2_with fail
          go_ret
          exact ⟨by rw [← HI.out]; rfl, rfl⟩
        · have HI := Lib.hid (show b = ⟨(Lib.itoa n).toArray⟩ by
            rw [hb]
            unfold Lib.itoa
            rw [if_neg hneg, show n.natAbs = n.toNat by omega])
          clear hb
          go_wp2_with fail
          go_ret
          exact ⟨by rw [← HI.out]; rfl, rfl⟩
      · have hkb : (k != 0) = true := by simp [hk]
        obtain ⟨m, hm⟩ : ∃ m, k.tmod 10 = m := ⟨_, rfl⟩
        obtain ⟨q, hq⟩ : ∃ q, k.tdiv 10 = q := ⟨_, rfl⟩
        have hmd : m.natAbs = k.natAbs % 10 := by rw [← hm, Int.natAbs_tmod]; rfl
        have hqd : q.natAbs = k.natAbs / 10 := by rw [← hq, Int.natAbs_tdiv]; rfl
        have hm1 : -9 ≤ k.tmod 10 := by rw [hm]; omega
        have hm2 : k.tmod 10 ≤ 9 := by rw [hm]; omega
        have HQ := Lib.hid (And.intro hd (And.intro hg (And.intro hk (And.intro hmd (And.intro hqd (And.intro hm hq))))))
        clear hd hg hk hmd hqd hm hq
        by_cases hneg : k.tmod 10 < 0
        · go_wp2_with fail
          go_roundg (gk - 1)
          case measure => obtain ⟨_, hg, hk, _⟩ := HQ.out; omega
          case rel =>
            obtain ⟨hd, hg, hk, hmd, hqd, hm, hq⟩ := HQ.out
            exact ⟨q, _, by omega, rfl, by rw [hq], hd.next (d := k.natAbs % 10) hk (fun h => by rw [← hq] at h; exact tdiv_pos h) hqd rfl (by rw [hm] at hneg ⊢; omega) (by rw [hm] at hneg ⊢; omega), rfl⟩
        · go_wp2_with fail
          go_roundg (gk - 1)
          case measure => obtain ⟨_, hg, hk, _⟩ := HQ.out; omega
          case rel =>
            obtain ⟨hd, hg, hk, hmd, hqd, hm, hq⟩ := HQ.out
            exact ⟨q, _, by omega, rfl, by rw [hq], hd.next (d := k.natAbs % 10) hk (fun h => by rw [← hq] at h; exact tdiv_pos h) hqd rfl (by rw [hm] at hneg ⊢; omega) (by rw [hm] at hneg ⊢; omega), rfl⟩
end U
end Go.Proofs.YthcehhonahgfmaaDoor
