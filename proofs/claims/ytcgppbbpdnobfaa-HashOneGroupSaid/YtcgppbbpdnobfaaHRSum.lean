/-
  The specification's Sum.
-/
import Derived.Test.YtcgppbbpdnobfaaHRef
namespace Go.Proofs.Ytcgppbbpdnobfaa
open Go.RowKit Go.Shelf
namespace H

theorem own_shape {w : World} {base n : Nat} {e : TypeId} {v : Value} {xs : List Value} (h : w.ownsRow base e 1 v n xs) : ∃ A c, v = .slice A n c := by
  rcases h.2 with ⟨rfl, rfl⟩ | ⟨g, cap, _, rfl, _⟩
  · exact ⟨_, _, rfl⟩
  · exact ⟨_, _, rfl⟩

/-- []byte(s): a new row that reads as the bytes. -/
theorem conv_bytes (s : ByteArray) (w : World) : ∃ c W1, (convert 9 28 (.string s)).run Try.prog w = .ok (.slice (some ⟨w.heap.size, 0, none⟩) s.size c) W1 ∧
    RdI W1 W1.heap.size .u8 (some ⟨w.heap.size, 0, none⟩) (bytesOf s) ∧ Below w.heap.size w W1 ∧ w.heap.size < W1.heap.size := by
  refine ⟨_, _, run_bytes_of_string w 9 28 5 s Try.underlying9 Try.underlying28 Try.underlying5, ?_, ((Below.refl _ w).drew).alloc (Nat.le_refl _) _, by simp⟩
  intro j hj
  refine ⟨_, rfl, by simp, ?_⟩
  rw [bytesOf_length] at hj
  generalize grownCap w s.size 0 5 = c
  have h1 : ((w.drew.alloc (.cells (bytesRow s c) 5 ((bytesRow s c).size, (bytesRow s c).size + 1))).heap[w.heap.size]?) = some (.cells (bytesRow s c) 5 ((bytesRow s c).size, (bytesRow s c).size + 1)) := heap_alloc_new w.drew _
  have h2 : (bytesRow s c)[j]? = some (.int .u8 (s[j].toNat : Int)) := by
    have hs : j < s.data.size := hj
    unfold bytesRow
    rw [Array.getElem?_append_left (by simpa using hs)]
    simp
    exact ⟨s.data[j], Array.getElem?_eq_getElem hs, rfl⟩
  have h3 : (bytesOf s)[j]?.getD 0 = (s[j].toNat : Int) := by
    rw [List.getElem?_eq_getElem (by rw [bytesOf_length]; exact hj), Option.getD_some, bytesOf_get s j hj]
  rw [h3]
  have h4 : (⟨w.heap.size, 0, none⟩ : Addr).add j = ⟨w.heap.size, j, none⟩ := by unfold Addr.add; split <;> simp_all
  rw [h4]
  unfold World.cell?
  rw [h1]
  exact h2

set_option maxHeartbeats 1000000 in
theorem rsum_any (s : ByteArray) (A : Option Addr) (n cap : Nat) (zs : List Int) (w : World) (hs : s.size ≤ 140737488351232) (hl : zs.length = n) (hn : n ≤ 140737488351232) (hr : RdI w w.heap.size .i64 A zs) :
    Calls Try.prog 12 #[.string s, .slice A n cap] w fun e w' => e = .returned (.int .u64 (sumI (bytesOf s) zs)) ∧ Below w.heap.size w w' := by
  have HL := Lib.hid hl
  have HR := Lib.hid hr
  clear hl hr
  obtain ⟨c, W1, hconv, hr1, hB1, hsz⟩ := conv_bytes s w
  have h1 := rwords_any (some ⟨w.heap.size, 0, none⟩) s.size c (bytesOf s) W1 (bytesOf_byt s) (bytesOf_length s) hs hr1
  have HR1 := Lib.hid hr1
  clear hr1
  go_enter Try.func12, Try.ntmps12
  go_wp2_with (go_at_call 26; refine h1.mono ?_; clear h1; rintro e w2 ⟨v, rfl, hown, hb2⟩)
  obtain ⟨A', c', rfl⟩ := own_shape hown
  have hr2 := own_RdI hown
  have HR2 := Lib.hid hr2
  have HO := Lib.hid hown
  clear hr2 hown hconv
  have hB2 : Below w.heap.size w w2 := hB1.trans (hb2.mono hB1.size)
  have hnw : nw s.size * 8 ≤ s.size + 7 := by unfold nw; omega
  have hwl : (words (bytesOf s)).length = nw s.size := by rw [words_length, bytesOf_length]
  have HW := Lib.hid hwl
  clear hwl
  generalize hm : nw s.size = m at HR2 HO HW hnw
  have HM := Lib.hid hm
  clear hm
  go_wp2
  go_loop [5, 7] (fun x i => ∃ k : Nat, k ≤ m ∧ i = .int .i64 k ∧ x = .int .u64 (foldI 0 ((words (bytesOf s)).take k))) (fun _ i => m - (intOf i).toNat)
  case atStart => exact ⟨0, by omega, rfl, by simp [foldI_nil]⟩
  case round =>
    obtain ⟨k, hk, rfl, rfl⟩ := hrel
    generalize hx : foldI 0 ((words (bytesOf s)).take k) = x
    have HX := Lib.hid hx
    clear hx
    by_cases hlt : k < m
    · obtain ⟨ad, rfl, _, hc⟩ := HR2.out k (by rw [HW.out]; exact hlt)
      generalize hz : (words (bytesOf s))[k]?.getD 0 = z at hc
      have HZ := Lib.hid hz
      clear hz
      go_wp2_with (go_at_call 27; refine (rmix_any _ _ _).mono ?_; rintro e w' ⟨rfl, rfl⟩)
      go_round
      case rel =>
        refine ⟨k + 1, by omega, by go_num, ?_⟩
        have hi : k < (words (bytesOf s)).length := by rw [HW.out]; exact hlt
        rw [List.take_succ_eq_append_getElem hi, foldI_snoc, HX.out]
        have hz := HZ.out
        rw [List.getElem?_eq_getElem hi, Option.getD_some] at hz
        rw [hz]
      case measure => simp [intOf]; omega
    · obtain rfl : k = m := by omega
      have hxe := HX.out
      rw [List.take_of_length_le (by rw [HW.out]; exact Nat.le_refl _)] at hxe
      have HXE := Lib.hid hxe
      clear hxe HX
      go_wp2_with (go_at_call 27; refine (rmix_any _ _ _).mono ?_; rintro e w' ⟨rfl, rfl⟩)
      go_loop [5, 8] (fun y i => ∃ j : Nat, j ≤ n ∧ i = .int .i64 j ∧ y = .int .u64 (foldI (mixI (mixI x s.size) n) (zs.take j))) (fun _ i => n - (intOf i).toNat)
      case atStart => exact ⟨0, by omega, rfl, by simp [foldI_nil]⟩
      case round =>
        obtain ⟨j, hj, rfl, rfl⟩ := hrel
        generalize hy : foldI (mixI (mixI x s.size) n) (zs.take j) = y
        have HY := Lib.hid hy
        clear hy
        by_cases hlj : j < n
        · obtain ⟨ad, rfl, _, hc⟩ := HR.out.below hB2 j (by rw [HL.out]; exact hlj)
          generalize hz : zs[j]?.getD 0 = z at hc
          have HZ := Lib.hid hz
          clear hz
          go_wp2_with (go_at_call 27; refine (rmix_any _ _ _).mono ?_; rintro e w' ⟨rfl, rfl⟩)
          go_round
          case rel =>
            refine ⟨j + 1, by omega, by go_num, ?_⟩
            have hi : j < zs.length := by rw [HL.out]; exact hlj
            rw [List.take_succ_eq_append_getElem hi, foldI_snoc, HY.out]
            have hz := HZ.out
            rw [List.getElem?_eq_getElem hi, Option.getD_some] at hz
            rw [hz, mixI_wrap]
          case measure => simp [intOf]; omega
        · obtain rfl : j = n := by omega
          go_wp2
          go_ret
          refine ⟨ret_int ?_, hB2⟩
          rw [← HY.out, List.take_of_length_le (by rw [HL.out]; exact Nat.le_refl _), ← HXE.out]
          unfold sumI
          rw [bytesOf_length, HL.out]

end H
end Go.Proofs.Ytcgppbbpdnobfaa
