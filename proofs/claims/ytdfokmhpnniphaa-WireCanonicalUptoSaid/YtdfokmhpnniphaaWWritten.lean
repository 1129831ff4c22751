/-
  What a Writer collects for a list of items.
-/
import Derived.Test.YtdfokmhpnniphaaWWr
namespace Go.Proofs.Ytdfokmhpnniphaa
open Go.RowKit
namespace W
open H
set_option linter.unusedVariables false

set_option maxRecDepth 100000 in
set_option maxHeartbeats 1000000 in
theorem written_any (A : Option Addr) (n c : Nat) (xs : List Itm) (w : World) (hl : xs.length = n) (hn : n ≤ 140737488351232) (hr : RdIt w w.heap.size A xs) (hok : ∀ x ∈ xs, x.Ok ∧ x.bs.length ≤ 140737488351232 ∧ x.ls.length ≤ 1048576) (htot : (encAll (xs.map Itm.val)).length ≤ 70368744175616) (htot2 : ∀ x ∈ xs, x.bs.length ≤ 70368744175616) :
    Calls Try.prog 14 #[.slice A n c] w fun e w' => ∃ v, e = .returned v ∧ OwnB w w' (encAll (xs.map Itm.val)) v := by
  have HL := Lib.hid hl
  have HR := Lib.hid hr
  have HT := Lib.hid (fun k => Nat.le_trans (encAll_take_le (xs.map Itm.val) k) htot)
  have hstart : WAt (w.alloc (.cells #[.slice none 0 0] 66)) w.heap.size (.slice none 0 0) (encAll ((xs.map Itm.val).take 0)) := ⟨heap_alloc_new w _, World.ownsRow_nil _ _ _ _⟩
  have HST := Lib.hid hstart
  have hcalls : ∀ (k : Nat) (x : Itm) (W : World) (v : Value), xs[k]? = some x → WAt W w.heap.size v (encAll ((xs.map Itm.val).take k)) → Below w.heap.size w W → (∀ k, v.ownBlock = some k → w.heap.size ≤ k) → RdI W W.heap.size .u8 x.bA x.bs → RdI W W.heap.size .i64 x.lA x.ls → (∀ a, x.bA = some a → 0 < x.bs.length → ¬ WF w.heap.size v a.block) → (∀ a, x.lA = some a → 0 < x.ls.length → ¬ WF w.heap.size v a.block) →
      (x.k = 0 → Calls Try.prog 38 #[.pointer (some ⟨w.heap.size, 0, none⟩), .int .u64 x.u] W (WrPost W w.heap.size v (encAll ((xs.map Itm.val).take (k + 1))))) ∧
      (x.k = 1 → Calls Try.prog 39 #[.pointer (some ⟨w.heap.size, 0, none⟩), .int .i64 x.i] W (WrPost W w.heap.size v (encAll ((xs.map Itm.val).take (k + 1))))) ∧
      (x.k = 2 → Calls Try.prog 35 #[.pointer (some ⟨w.heap.size, 0, none⟩), .slice x.bA x.bn x.bc] W (WrPost W w.heap.size v (encAll ((xs.map Itm.val).take (k + 1))))) ∧
      (x.k ≠ 0 → x.k ≠ 1 → x.k ≠ 2 → Calls Try.prog 36 #[.pointer (some ⟨w.heap.size, 0, none⟩), .slice x.lA x.ln x.lc] W (WrPost W w.heap.size v (encAll ((xs.map Itm.val).take (k + 1))))) := fun k x W v hx hW hB hvb hrb hrl hfb hfl => by
    obtain ⟨hO, hb1, hb2⟩ := hok x (List.mem_of_getElem? hx)
    have hb3 := htot2 x (List.mem_of_getElem? hx)
    have ht := HT.out k
    have hnl : encAll ((xs.map Itm.val).take (k + 1)) = encAll ((xs.map Itm.val).take k) ++ enc x.val := by
      rw [List.take_add_one, List.getElem?_map, hx]
      exact encAll_snoc _ _
    rw [hnl]
    refine ⟨fun h => ?_, fun h => ?_, fun h => ?_, fun h0 h1 h2 => ?_⟩
    · have hv : x.val = .u x.u := by unfold Itm.val; exact if_pos h
      rw [hv]
      exact uint_wr x.u hO.u hW (by omega)
    · have hv : x.val = .i x.i := by unfold Itm.val; rw [if_neg (by rw [h]; decide), if_pos h]
      rw [hv]
      exact int_wr x.i hO.i hW (by omega)
    · have hv : x.val = .b x.bs := by unfold Itm.val; rw [if_neg (by rw [h]; decide), if_neg (by rw [h]; decide), if_pos h]
      rw [hv]
      have := bytes_wr x.bA x.bn x.bc x.bs hW hO.bl (by rw [← hO.bl]; omega) (fun h => hO.bz h) hrb hfb
      rw [← hO.bl] at this ⊢
      exact this
    · have hv : x.val = .l x.ls := by unfold Itm.val; rw [if_neg h0, if_neg h1, if_neg h2]
      rw [hv]
      have := ints_wr x.lA x.ln x.lc x.ls hW hO.ll (by rw [← hO.ll]; omega) hO.lb hrl hfl
      rw [← hO.ll] at this ⊢
      exact this
  have HC := Lib.hid hcalls
  clear hl hr hok htot htot2 hstart hcalls
  go_enter Try.func14, Try.ntmps14
  go_wp2_with fail
  go_loopw [4] (fun i wr => ∃ (k : Nat) (v : Value), k ≤ n ∧ i = .int .i64 k ∧ WAt wr w.heap.size v (encAll ((xs.map Itm.val).take k)) ∧ (∀ k, v.ownBlock = some k → w.heap.size ≤ k) ∧ Below w.heap.size w wr) (fun i _ => n - (intOf i).toNat)
  case atStart => exact ⟨0, _, by omega, rfl, HST.out, (fun k hk => by simp [Value.ownBlock] at hk), (Below.refl _ _).alloc (Nat.le_refl _) _⟩
  case round =>
    obtain ⟨k, v, hk, rfl, hW, hvb, hB⟩ := hrel
    have HW := Lib.hid hW
    have HVB := Lib.hid hvb
    clear hW hvb
    by_cases hlt : k < n
    · obtain ⟨x, hx⟩ : ∃ x, xs[k]? = some x := ⟨_, List.getElem?_eq_getElem (by rw [HL.out]; exact hlt)⟩
      obtain ⟨ad, rfl, ha, hr⟩ := (HR.out.below hB) k x hx
      obtain ⟨hC0, hC1, hC2, hC3⟩ := HC.out k x wr v hx HW.out hB HVB.out (hr.rb.more hB.size) (hr.rl.more hB.size) (fun a ha hl hf => by have := RdI.lt0 hr.rb a ha hl; rcases hf with h | h; (omega); have := HVB.out _ h; omega) (fun a ha hl hf => by have := RdI.lt0 hr.rl a ha hl; rcases hf with h | h; (omega); have := HVB.out _ h; omega)
      have H0 := Lib.hid hC0
      have H1 := Lib.hid hC1
      have H2 := Lib.hid hC2
      have H3 := Lib.hid hC3
      obtain ⟨hc0, hc1, hc2, hc3, hc4, hc5, _, _⟩ := hr
      rw [add_pos _ _ (by decide)] at hc1 hc2 hc3 hc4
      clear hc5 hx hC0 hC1 hC2 hC3 HC HR
      by_cases h0 : x.k = 0
      · rw [h0] at hc0
        have hcall := H0.out h0
        clear h0 H0 H1 H2 H3
        go_wp2_with fail
        refine hcall.mono ?_
        clear hcall
        rintro e w2 ⟨rfl, v2, hW2, hB2⟩
        have HW2 := Lib.hid hW2
        clear hW2
        go_wp2_with fail
        exact ⟨⟨k + 1, v2, by omega, by go_num, HW2.out, fun k hk => (hB2.place k hk).elim (HVB.out k) (Nat.le_trans hB.size), hB.trans (hB2.below hB.size (Nat.le_refl _) HVB.out)⟩, by simp [intOf]; omega⟩
      · have g0 : (x.k == 0) = false := by simpa using h0
        by_cases h1 : x.k = 1
        · rw [h1] at hc0
          have hcall := H1.out h1
          clear h0 g0 h1 H0 H1 H2 H3
          go_wp2_with fail
          refine hcall.mono ?_
          clear hcall
          rintro e w2 ⟨rfl, v2, hW2, hB2⟩
          have HW2 := Lib.hid hW2
          clear hW2
          go_wp2_with fail
          exact ⟨⟨k + 1, v2, by omega, by go_num, HW2.out, fun k hk => (hB2.place k hk).elim (HVB.out k) (Nat.le_trans hB.size), hB.trans (hB2.below hB.size (Nat.le_refl _) HVB.out)⟩, by simp [intOf]; omega⟩
        · have g1 : (x.k == 1) = false := by simpa using h1
          by_cases h2 : x.k = 2
          · rw [h2] at hc0
            have hcall := H2.out h2
            clear h0 g0 h1 g1 h2 H0 H1 H2 H3
            go_wp2_with fail
            refine hcall.mono ?_
            clear hcall
            rintro e w2 ⟨rfl, v2, hW2, hB2⟩
            have HW2 := Lib.hid hW2
            clear hW2
            go_wp2_with fail
            exact ⟨⟨k + 1, v2, by omega, by go_num, HW2.out, fun k hk => (hB2.place k hk).elim (HVB.out k) (Nat.le_trans hB.size), hB.trans (hB2.below hB.size (Nat.le_refl _) HVB.out)⟩, by simp [intOf]; omega⟩
          · have g2 : (x.k == 2) = false := by simpa using h2
            have hcall := H3.out h0 h1 h2
            clear h0 h1 h2 H0 H1 H2 H3
            go_wp2_with fail
            refine hcall.mono ?_
            clear hcall
            rintro e w2 ⟨rfl, v2, hW2, hB2⟩
            have HW2 := Lib.hid hW2
            clear hW2
            go_wp2_with fail
            exact ⟨⟨k + 1, v2, by omega, by go_num, HW2.out, fun k hk => (hB2.place k hk).elim (HVB.out k) (Nat.le_trans hB.size), hB.trans (hB2.below hB.size (Nat.le_refl _) HVB.out)⟩, by simp [intOf]; omega⟩
    · obtain rfl : k = n := by omega
      have hW := HW.out
      rw [List.take_of_length_le (by rw [List.length_map, HL.out]; exact Nat.le_refl _)] at hW
      have hd := done_wr hW (by have := HT.out k; rw [List.take_of_length_le (by rw [List.length_map, HL.out]; exact Nat.le_refl _)] at this; omega)
      clear HC HT HST HW hW
      go_wp2_with fail
      refine hd.mono ?_
      clear hd
      rintro e w2 ⟨v2, rfl, ho, hB2⟩
      have HO := Lib.hid (ho.low hB.size)
      clear ho
      go_wp2_with fail
      go_ret
      exact ⟨v2, rfl, HO.out, hB.trans (hB2.mono hB.size)⟩

theorem encL_byt (zs : List Int) : Byt (encL zs) := by
  intro b hb
  obtain ⟨z, _, hz⟩ := List.mem_flatMap.1 hb
  exact encU_byt _ b hz
theorem encAll_byt {xs : List Itm} (h : ∀ x ∈ xs, x.Ok) : Byt (encAll (xs.map Itm.val)) := by
  intro b hb
  obtain ⟨v, hv, hb⟩ := List.mem_flatMap.1 hb
  obtain ⟨x, hx, rfl⟩ := List.mem_map.1 hv
  have hO := h x hx
  unfold Itm.val at hb
  split at hb
  · exact encU_byt _ b hb
  · split at hb
    · exact encU_byt _ b hb
    · split at hb
      · rcases List.mem_append.1 hb with hb | hb
        · exact encU_byt _ b hb
        · exact hO.bb b hb
      · rcases List.mem_append.1 hb with hb | hb
        · exact encU_byt _ b hb
        · exact encL_byt _ b hb

end W
end Go.Proofs.Ytdfokmhpnniphaa
