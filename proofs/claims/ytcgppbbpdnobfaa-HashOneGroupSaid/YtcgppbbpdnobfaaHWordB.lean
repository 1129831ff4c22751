/-
  wordAt of a byte slice: the number of the group of up to 8 bytes that begins at a place; a slice that reads as a list of integers.
-/
import Derived.Test.YtcgppbbpdnobfaaHWordS
namespace Go.Proofs.Ytcgppbbpdnobfaa
open Go.RowKit
namespace H

/-- The slice at A holds the integers zs of kind k, in a block below B. -/
def RdI (w : World) (B : Nat) (k : IntKind) (A : Option Addr) (zs : List Int) : Prop :=
  ∀ j, j < zs.length → ∃ ad, A = some ad ∧ ad.block < B ∧ w.cell? (ad.add j) = some (.int k (zs[j]?.getD 0))

theorem add_block (a : Addr) (n : Nat) : (a.add n).block = a.block := by unfold Addr.add; split <;> rfl
theorem RdI.keep {w w' : World} {B : Nat} {k : IntKind} {A : Option Addr} {zs : List Int} (h : RdI w B k A zs) (hk : ∀ p : Addr, p.block < B → w'.cell? p = w.cell? p) : RdI w' B k A zs :=
  fun j hj => by
    obtain ⟨ad, e, hb, hc⟩ := h j hj
    exact ⟨ad, e, hb, (hk _ (by rw [add_block]; exact hb)).trans hc⟩
theorem RdI.below {w w' : World} {B : Nat} {k : IntKind} {A : Option Addr} {zs : List Int} (h : RdI w B k A zs) (hb : Below B w w') : RdI w' B k A zs := h.keep fun _ hp => hb.cell hp
theorem RdI.more {w : World} {B B' : Nat} {k : IntKind} {A : Option Addr} {zs : List Int} (h : RdI w B k A zs) (hB : B ≤ B') : RdI w B' k A zs :=
  fun j hj => by
    obtain ⟨ad, e, hb, hc⟩ := h j hj
    exact ⟨ad, e, by omega, hc⟩
theorem RdI.nil {w : World} {B : Nat} {k : IntKind} {A : Option Addr} : RdI w B k A [] := fun j hj => by simp at hj

set_option maxHeartbeats 400000 in
theorem wordB_any (A : Option Addr) (n cap : Nat) (bs : List Int) (B st : Nat) (w : World) (hb : Byt bs) (hl : bs.length = n) (hn : n ≤ maxLen) (hst : st < n) (hr : RdI w B .u8 A bs) :
    Calls Try.prog 34 #[.slice A n cap, .int .i64 st] w fun e w' => e = .returned (.int .u64 (le8 ((bs.drop st).take 8))) ∧ w = w' := by
  unfold maxLen at hn
  obtain ⟨ad, rfl, _, _⟩ := hr st (by omega)
  have HL := Lib.hid hl
  have HB := Lib.hid hb
  have HR := Lib.hid hr
  clear hl hb hr
  go_enter Try.func34, Try.ntmps34
  go_wp2
  all_goals
    go_loop [5, 12] (fun x i => ∃ k : Nat, k ≤ 8 ∧ st + k ≤ n ∧ i = .int .i64 k ∧ x = .int .u64 (le8 ((bs.drop st).take k))) (fun _ i => 8 - (intOf i).toNat)
    case atStart => exact ⟨0, by omega, by omega, rfl, by simp [le8]⟩
    case round =>
      obtain ⟨k, hk, hk2, rfl, rfl⟩ := hrel
      generalize hx : le8 ((bs.drop st).take k) = x
      have HX := Lib.hid hx
      clear hx
      by_cases hlt : k < 8 ∧ st + k < n
      · obtain ⟨hl1, hl2⟩ := hlt
        obtain ⟨ad', e, _, hc⟩ := HR.out (st + k) (by rw [HL.out]; exact hl2)
        cases e
        generalize hy : bs[st + k]?.getD 0 = y at hc
        have HY := Lib.hid hy
        clear hy
        go_wp2
        go_round
        case rel =>
          refine ⟨k + 1, by omega, by omega, by go_num, ?_⟩
          have hi : st + k < bs.length := by rw [HL.out]; exact hl2
          have hy : bs[st + k] = y := by rw [← HY.out, List.getElem?_eq_getElem hi]; rfl
          have hyb := HB.out y (by rw [← hy]; exact List.getElem_mem _)
          obtain ⟨c, rfl⟩ := Int.eq_ofNat_of_zero_le hyb.1
          rw [← HX.out, take_one _ st k hi, hy]
          have hlen : ((bs.drop st).take k).length = k := by simp [HL.out]; omega
          have := or_form (g := (bs.drop st).take k) (fun b hb => HB.out b (List.mem_of_mem_drop (List.mem_of_mem_take hb))) c (by omega) (by omega)
          rw [hlen] at this
          exact congrArg _ this
        case measure => simp [intOf]; omega
      · go_wp2
        go_ret
        exact ⟨ret_int (by rw [← HX.out]; congr 1; exact take_end _ st k (by rw [HL.out]; omega)), rfl⟩

theorem wordB_at (A : Option Addr) (n cap : Nat) (bs : List Int) (B k : Nat) (w : World) (hb : Byt bs) (hl : bs.length = n) (hn : n ≤ maxLen) (hk : 8 * k < n) (hr : RdI w B .u8 A bs) :
    Calls Try.prog 34 #[.slice A n cap, .int .i64 (8 * (k : Int))] w fun e w' => e = .returned (.int .u64 (le8 (grp bs k))) ∧ w = w' := by
  have h := wordB_any A n cap bs B (8 * k) w hb hl hn hk hr
  have e : ((8 * k : Nat) : Int) = 8 * (k : Int) := by omega
  rw [e] at h
  exact h

end H
end Go.Proofs.Ytcgppbbpdnobfaa
