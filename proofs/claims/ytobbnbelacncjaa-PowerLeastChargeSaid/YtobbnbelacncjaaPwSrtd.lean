/-
  slices.Collect, slices.SortedFunc at loads; untouched.
-/
import Derived.Test.YtobbnbelacncjaaPwVals
namespace Go.Proofs.Ytobbnbelacncjaa
open Go.RowKit
namespace Pw
open H
set_option linter.unusedVariables false
set_option linter.unusedSimpArgs false
set_option maxRecDepth 100000
set_option maxHeartbeats 2000000 in
theorem pcoll_any (T : List Ld) (A : Option Addr) (cap B Bt : Nat) (w : World) (hB : B ≤ w.heap.size) (hlen : T.length ≤ 1000) (hb : Q.Sb w Bt (.slice A T.length cap)) (hR : RdsLd w B A T) :
    Calls Try.prog 51 #[.func (.func 53) #[] #[bp Bt]] w fun e w' => ∃ v, e = .returned v ∧ w'.ownsRow (w.heap.size + 1) 41 4 v T.length (flat4 T) ∧ Below w.heap.size w w' := by
  have HC := Lib.hid (pappseq_any T A cap B Bt w hB hlen hb hR)
  clear hb hR hB
  generalize T.length = len at *
  go_enter Try.func51, Try.ntmps51
  go_wp2_with (go_at_call 68; refine HC.out.mono ?_; rintro e w2 ⟨v, rfl, ho, hb⟩)
  go_ret
  exact ⟨v, rfl, ho, hb⟩
theorem flat_pos {T : List Ld} : (flat4 T) = (T.flatMap cells4) := rfl
/-- The row of loads as the sort reads it. -/
theorem holds_own {W : World} {base g c : Nat} {L : List Ld} (h : OwnL W base g c L) : Sort.HoldsK cells4 4 W g 0 L.toArray := by
  intro j hj
  have hj2 : j < L.length * 4 := by simpa using hj
  obtain ⟨i, r, x, rfl, hr, hx, hf⟩ := flat4_at hj2
  have e1 : (Sort.flatK cells4 4 L.toArray)[i * 4 + r]! = (cells4 x)[r]! := by
    rw [Sort.get_flatK _ _ _ _ (by simpa using hj2), show (i * 4 + r) / 4 = i by omega, show (i * 4 + r) % 4 = r by omega]
    have : L.toArray[i]! = x := by
      have hil := (List.getElem?_eq_some_iff.1 hx).1
      simp [getElem!_pos, hil, (List.getElem?_eq_some_iff.1 hx).2]
    rw [this]
  rw [e1, Nat.zero_add]
  refine ⟨?_, h.fz _⟩
  obtain ⟨h0, h1, h2, h3⟩ := h.rd hx
  match r, hr with
  | 0, _ => exact h0
  | 1, _ => exact h1
  | 2, _ => exact h2
  | 3, _ => exact h3
theorem rds_holds {W : World} {g : Nat} {L : List Ld} (h : Sort.HoldsK cells4 4 W g 0 L.toArray) (hg : g < W.heap.size) : RdsLd W W.heap.size (some ⟨g, 0, none⟩) L := by
  intro j x hx
  refine ⟨_, rfl, hg, ?_⟩
  have hil := (List.getElem?_eq_some_iff.1 hx).1
  have hc : ∀ r, r < 4 → W.cell? ⟨g, j * 4 + r, none⟩ = some (cells4 x)[r]! := by
    intro r hr
    have h1 := (h (j * 4 + r) (by simp; omega)).1
    have e1 : (Sort.flatK cells4 4 L.toArray)[j * 4 + r]! = (cells4 x)[r]! := by
      rw [Sort.get_flatK _ _ _ _ (by simp; omega), show (j * 4 + r) / 4 = j by omega, show (j * 4 + r) % 4 = r by omega]
      have : L.toArray[j]! = x := by simp [getElem!_pos, hil, (List.getElem?_eq_some_iff.1 hx).2]
      rw [this]
    rw [e1, Nat.zero_add] at h1
    exact h1
  rw [ad_add]
  exact ⟨hc 0 (by omega), hc 1 (by omega), hc 2 (by omega), hc 3 (by omega)⟩
set_option maxHeartbeats 4000000 in
theorem psorted_any (T : List Ld) (A : Option Addr) (cap B Bt lo : Nat) (v : Value) (w : World) (hB : B ≤ w.heap.size) (hlen : T.length ≤ 1000) (hb : Q.Sb w Bt (.slice A T.length cap)) (hR : RdsLd w B A T) (hC : CmpAt lo w v cmpL) (hd : Dif T) :
    Calls Try.prog 37 #[.func (.func 53) #[] #[bp Bt], v] w fun e w' => ∃ A' c, e = .returned (.slice A' (ord T).length c) ∧ RdsLd w' w'.heap.size A' (ord T) ∧ (∀ ad, A' = some ad → 0 < (ord T).length → w.heap.size ≤ ad.block) ∧ Below w.heap.size w w' := by
  have HC := Lib.hid (pcoll_any T A cap B Bt w hB hlen hb hR)
  rcases Nat.eq_zero_or_pos T.length with h0 | h0
  · obtain rfl : T = [] := List.length_eq_zero_iff.1 h0
    obtain ⟨g, cb, rfl, _, _⟩ := hC
    have HN := Lib.hid (fun (p : Option Addr) (c : Nat) (fv : Value) (W : World) => AnyF.slices_SortFunc_none (P := Try.prog) (ρ := Try.sortL_ren) Try.sortL p c fv W)
    clear hb hR hB h0
    go_enter Try.func37, Try.ntmps37
    go_wp2_with (first
      | (go_at_call 51; refine HC.out.mono ?_; rintro e w2 ⟨v2, rfl, ho, hb⟩; have HB := Lib.hid hb; obtain ⟨A2, c2, rfl⟩ := own_shape4 ho; clear hb ho)
      | (go_at_call 52; refine (HN.out _ _ _ _).mono ?_; rintro e w3 ⟨rfl, rfl⟩))
    go_ret
    exact ⟨A2, c2, rfl, fun j x hx => by simp [ord] at hx, fun ad _ h => by simp [ord] at h, HB.out⟩
  · have HS := Lib.hid (fun cap2 blk w2 (hB2 : Below w.heap.size w w2) (h1 : w.heap.size ≤ blk) (h2 : blk < w2.heap.size) hH => psortf_any T cap2 blk lo v w w2 hC hB2 h1 h2 hH hd (by omega))
    have HLN : Hid ((ord T).length = T.length) := Lib.hid (ord_len T)
    have HP := Lib.hid h0
    obtain ⟨g, cb, rfl, _, _⟩ := hC
    clear hb hR hB h0
    generalize hl : T.length = len at *
    have HL := Lib.hid hl
    clear hl
    go_enter Try.func37, Try.ntmps37
    go_wp2_with (first
      | (go_at_call 51; refine HC.out.mono ?_; rintro e w2 ⟨v2, rfl, ho, hb⟩; have HB := Lib.hid hb; obtain ⟨blk, c, rfl, hol⟩ := own_l ho HL.out.symm HP.out; have HO := Lib.hid hol; have HBK : Hid (blk < w2.heap.size) := Lib.hid (by obtain ⟨_, _, _, cur, hcur, _⟩ := hol; exact hlt_of hcur); rw [HL.out]; clear hb ho hol)
      | (go_at_call 52; refine (HS.out c blk w2 HB.out (by have := HO.out.1; omega) HBK.out (holds_own HO.out)).mono ?_; rintro e w3 ⟨rfl, hH3, hB3, hlt3⟩; have HH := Lib.hid hH3; have HB3 := Lib.hid hB3; have HL3 := Lib.hid hlt3; clear hH3 hB3 hlt3))
    go_ret
    exact ⟨_, c, by rw [HLN.out]; rfl, rds_holds HH.out HL3.out, fun ad h _ => by cases h; have := HO.out.1; show w.heap.size ≤ blk; omega, HB3.out⟩
set_option maxHeartbeats 1000000 in
theorem puntouched_any (b : Bt) (x : Ld) (w : World) : Calls Try.prog 40 #[b.v, x.v] w fun e w' => e = .returned (.int .i64 (if x.ess = true then 0 else b.res)) ∧ Below w.heap.size w w' := by
  obtain ⟨xi, xp, xr, xe⟩ := x
  obtain ⟨bc, bg, br⟩ := b
  dsimp only [Ld.v, Bt.v]
  cases xe
  all_goals
    go_enter Try.func40, Try.ntmps40
    go_wp2_with fail
    go_ret
    exact ⟨rfl, bel2 w _ _⟩
end Pw
end Go.Proofs.Ytobbnbelacncjaa
