/-
  bytes.Clone: a copy of a byte slice, in memory of its own.
-/
import Derived.Test.YtlmbpbhdbgadjaaVBase
namespace Go.Proofs.Ytlmbpbhdbgadjaa
open Go.RowKit
namespace W
open H

set_option maxHeartbeats 1000000 in
theorem clone_any (A : Option Addr) (n c : Nat) (bs : List Int) (w : World) (hl : bs.length = n) (hn : n ≤ 140737488351232) (hnil : A = none → c = 0) (hr : RdI w w.heap.size .u8 A bs) :
    Calls Try.prog 57 #[.slice A n c] w fun e w' => ∃ v, e = .returned v ∧ OwnB w w' bs v := by
  obtain ⟨i0, hi, hz0, hz1, hz2⟩ := info_parts infoB
  have q22 : ∀ (w : World) (a : Option Addr) (n c n' c' : Nat), (binOp .eql 55 (.slice a n c) (.slice none n' c')).run Try.prog w = .ok (.bool a.isNone) w := fun w a n c n' c' => Lib.run_eql_slice_nil w _ _ a n c n' c' Try.underlying55
  have HL := Lib.hid hl
  have HR := Lib.hid hr
  clear hl hr
  rcases A with _ | ad
  · have h0 : bs = [] := by
      rcases bs with _ | ⟨b, bs⟩
      · rfl
      · obtain ⟨_, e, _⟩ := HR.out 0 (by simp)
        cases e
    subst h0
    obtain rfl : n = 0 := by rw [← HL.out]; rfl
    obtain rfl := hnil rfl
    go_enter Try.func57, Try.ntmps57
    go_wp2
    go_ret
    exact ⟨_, rfl, World.ownsRow_nil _ _ _ _, Below.refl _ _⟩
  · have hB := (Below.refl w.heap.size w).alloc (Nat.le_refl _) (.cells #[] 5)
    have hnews := (HR.out.below hB).news n
    rw [List.take_of_length_le (by rw [HL.out]; exact Nat.le_refl _)] at hnews
    have hnl : (bs.map (Value.int .u8)).length = n * 1 := by rw [List.length_map, HL.out]; omega
    have hown : (w.alloc (.cells #[] 5)).ownsRow w.heap.size 5 1 (.slice (some ⟨w.heap.size, 0, none⟩) 0 0) 0 [] := World.ownsRow_made w #[] 0 (Nat.le_refl _) (by decide) (by simp)
    have HN := Lib.hid hnews
    have HNL := Lib.hid hnl
    have HO := Lib.hid hown
    clear hnews hnl hown
    go_enter Try.func57, Try.ntmps57
    go_wp2_with (at_builtin; refine wpList_append_own _ rfl _ _ 55 rfl w.heap.size 5 i0 (.int .u8 0) 1 1 Try.underlying55 hi hz0 hz1 hz2 rfl (by decide) _ _ _ rfl HO.out ad n c (bs.map (Value.int .u8)) rfl HNL.out HN.out (one_cells _ _) (by unfold maxLen; omega) (by omega) (by simp) ?_; intro v' w2 hown' hgrow _)
    go_ret
    refine ⟨v', rfl, ?_, hB.trans (own_below0 (by simp) HO.out hgrow)⟩
    rw [HL.out]
    simpa using hown'

end W
end Go.Proofs.Ytlmbpbhdbgadjaa
