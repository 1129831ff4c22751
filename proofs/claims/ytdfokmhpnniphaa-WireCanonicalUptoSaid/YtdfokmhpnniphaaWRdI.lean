/-
  The specification's readers: a number, a length, the end.
-/
import Derived.Test.YtdfokmhpnniphaaWRd
import Derived.RegionTactic
import Derived.ChangeAlike
import Derived.Deep.RegionHeld3
namespace Go.Proofs.Ytdfokmhpnniphaa
open Go.RowKit
namespace W
open H
set_option linter.unusedVariables false

theorem rU_lt {bs : List Int} (hb : Byt bs) (e : Int) : (rU (bs, e)).2 < 18446744073709551616 := by
  unfold rU
  split
  · simp
  · rcases hr : rd 0 bs with x | ⟨n, r⟩
    · simp
    · have h := (rd_canon bs 0 n r hb (by omega) hr).2.2
      have : (2 : Nat) * 128 ^ (9 - 0) = 18446744073709551616 := by decide
      simp only
      omega
theorem rU_byt {bs : List Int} (hb : Byt bs) (e : Int) : Byt (rU (bs, e)).1.1 := by
  unfold rU
  split
  · exact hb
  · rcases hr : rd 0 bs with x | ⟨n, r⟩
    · exact hb
    · have h := (rd_canon bs 0 n r hb (by omega) hr).1
      rw [h] at hb
      exact byt_right hb

set_option maxRecDepth 100000 in
set_option maxHeartbeats 1000000 in
theorem rdint_any (B : Nat) (A : Option Addr) (n c : Nat) (bs : List Int) (e : Int) (w : World) (hBw : B ≤ w.heap.size) (hb : Byt bs) (hl : bs.length = n) (hn : n ≤ 140737488351232) (hc : n ≤ c) (hcm : c ≤ maxLen) (hnil : A = none → c = 0) (hr : RdI w B .u8 A bs) :
    Calls Try.prog 21 #[rdr A n c e] w (RdPost w B (rI (bs, e)).1 (.int .i64 (rI (bs, e)).2)) := by
  have hlt := rU_lt hb e
  have hBL : Below w.heap.size w ((w.alloc (.cells #[.slice A n c, .int .i64 e] 35)).alloc (.cells #[.slice none 0 0, .int .i64 0] 35)) := ((Below.refl _ _).alloc (Nat.le_refl _) _).alloc (by simp) _
  have h1 := rduint_any B A n c bs e ((w.alloc (.cells #[.slice A n c, .int .i64 e] 35)).alloc (.cells #[.slice none 0 0, .int .i64 0] 35)) (Nat.le_trans hBw hBL.size) hb hl hn hc hcm hnil (hr.below (hBL.mono hBw))
  have hz := zag_any (rU (bs, e)).2
  unfold rI
  generalize rU (bs, e) = s at h1 hlt hz ⊢
  obtain ⟨⟨sb, se⟩, su⟩ := s
  have hz1 := fun w => hz w hlt
  have HZ := Lib.hid hz1
  have HR := Lib.hid hr
  have HBL := Lib.hid hBL
  clear hb hl hnil hr hBL hz hz1 hlt hcm
  unfold rdr at h1 ⊢
  go_enter Try.func21, Try.ntmps21
  go_wp2_with fail
  refine h1.mono ?_
  clear h1
  rintro x w1 ⟨A1, n1, c1, rfl, hl1, hc1, hcm1, hnil1, hr1, hb1⟩
  have P1 := Lib.hid (And.intro hl1 (And.intro hc1 (And.intro hcm1 (And.intro hnil1 hr1))))
  clear hl1 hc1 hcm1 hnil1 hr1
  obtain ⟨hcl, hfr⟩ := bcell hb1
  have hz1 : w.heap.size + 1 < w1.heap.size := by have := hb1.size; simp at this; omega
  unfold rdr
  go_wp2_with fail
  have hb2 : Below w.heap.size w w1 := HBL.out.trans (hb1.mono (by simp; omega))
  have k0 : w1.cell? ⟨w.heap.size, 0, none⟩ = some (.slice A n c) := by rw [hcl _ _ (by simp; omega)]; simp
  have k1 : w1.cell? ⟨w.heap.size, 1, none⟩ = some (.int .i64 e) := by rw [hcl _ _ (by simp; omega)]; simp
  have k2 : w1.cell? ⟨w.heap.size + 1, 0, none⟩ = some (.slice none 0 0) := by rw [hcl _ _ (by simp)]; simp
  have k3 : w1.cell? ⟨w.heap.size + 1, 1, none⟩ = some (.int .i64 0) := by rw [hcl _ _ (by simp)]; simp
  have f2 : w1.frozen? ⟨w.heap.size + 1, 0, none⟩ = false := by rw [hfr _ _ (by simp)]; simp
  have f3 : w1.frozen? ⟨w.heap.size + 1, 1, none⟩ = false := by rw [hfr _ _ (by simp)]; simp
  obtain ⟨W2, hW2⟩ : ∃ W2, (w1.setCell ⟨w.heap.size, 0, none⟩ (.slice A1 n1 c1)).setCell ⟨w.heap.size, 1, none⟩ (.int .i64 se) = W2 := ⟨_, rfl⟩
  have q0 : W2.cell? ⟨w.heap.size, 0, none⟩ = some (.slice A1 n1 c1) := by
    rw [← hW2, World.cell?_setCell_other _ _ _ _ (by simp), World.cell?_setCell_same' _ _ _ (by rw [k0]; rfl)]
  have q1 : W2.cell? ⟨w.heap.size, 1, none⟩ = some (.int .i64 se) := by
    rw [← hW2, World.cell?_setCell_same' _ _ _ (by rw [World.cell?_setCell_other _ _ _ _ (by simp), k1]; rfl)]
  have q2 : W2.cell? ⟨w.heap.size + 1, 0, none⟩ = some (.slice none 0 0) := by
    rw [← hW2, World.cell?_setCell_other _ _ _ _ (by simp), World.cell?_setCell_other _ _ _ _ (by simp), k2]
  have q3 : W2.cell? ⟨w.heap.size + 1, 1, none⟩ = some (.int .i64 0) := by
    rw [← hW2, World.cell?_setCell_other _ _ _ _ (by simp), World.cell?_setCell_other _ _ _ _ (by simp), k3]
  have g2 : W2.frozen? ⟨w.heap.size + 1, 0, none⟩ = false := by rw [← hW2, World.frozen?_setCell, World.frozen?_setCell, f2]
  have g3 : W2.frozen? ⟨w.heap.size + 1, 1, none⟩ = false := by rw [← hW2, World.frozen?_setCell, World.frozen?_setCell, f3]
  have hB2 : Below w.heap.size w W2 := by rw [← hW2]; exact (hb2.setCell (Nat.le_refl _) _).setCell (Nat.le_refl _) _
  have hr3 : RdI W2 B .u8 A1 sb := by rw [← hW2]; exact P1.out.2.2.2.2.below (((Below.refl _ _).setCell hBw _).setCell hBw _)
  rw [hW2]
  clear hW2 k0 k1 k2 k3 f2 f3 hcl hfr hb2 hz1
  have HB2 := Lib.hid hB2
  have HR3 := Lib.hid hr3
  clear hB2 hr3
  go_region_with (go_at_call 47; refine (HZ.out _).mono ?_; rintro e w' ⟨rfl, rfl⟩)
  all_goals
    go_wp2
    refine bodyPost_ret (v := .tuple #[.agg #[.slice A1 n1 c1, .int .i64 se], .int .i64 (zag su)]) (by simp [results, Try.results21, go_sem, q2, q3]) rfl ?_
    obtain ⟨hl1, hc1, hcm1, hnil1, hr1⟩ := P1.out
    have hB3 := ((HB2.out.setCell (p := ⟨w.heap.size + 1, 0, none⟩) (by simp) (.slice A1 n1 c1)).setCell (p := ⟨w.heap.size + 1, 1, none⟩) (by simp) (.int .i64 se)).drew
    exact ⟨A1, n1, c1, rfl, hl1, hc1, hcm1, hnil1, HR3.out.below (((Below.refl B W2).setCell (p := ⟨w.heap.size + 1, 0, none⟩) (Nat.le_succ_of_le hBw) _).setCell (p := ⟨w.heap.size + 1, 1, none⟩) (Nat.le_succ_of_le hBw) _).drew, hB3⟩

end W
end Go.Proofs.Ytdfokmhpnniphaa
