/-
  The order of service is a strict order; loads with different IDs have one order only.
-/
import Derived.Test.YtobbnbelacncjaaPwStD
namespace Go.Proofs.Ytobbnbelacncjaa
open Go.RowKit
namespace Pw
open H
set_option linter.unusedVariables false
set_option linter.unusedSimpArgs false
theorem bef_irr (a : Ld) : bef a a = false := by
  unfold bef
  rw [if_pos rfl, if_neg (by simp)]
  exact decide_eq_false (by omega)
theorem bef_tr {a b c : Ld} (h : bef a b = true) (k : bef b c = true) : bef a c = true := by
  obtain ⟨ai, ap, ar, ae⟩ := a
  obtain ⟨bi, bp, br, be⟩ := b
  obtain ⟨ci, cp, cr, ce⟩ := c
  unfold bef at *
  cases ae <;> cases be <;> cases ce <;> simp at h k ⊢
  · split at h <;> split at k <;> split <;> omega
  · omega
theorem bef_to {a b : Ld} (h : a.id ≠ b.id) (k : bef a b = false) : bef b a = true := by
  obtain ⟨ai, ap, ar, ae⟩ := a
  obtain ⟨bi, bp, br, be⟩ := b
  unfold bef at *
  dsimp only at h
  cases ae <;> cases be <;> simp at k ⊢
  · by_cases h1 : ar = br
    · simp [h1] at k ⊢; omega
    · have h2 : ¬ br = ar := fun e => h1 e.symm
      simp [h1, h2] at k ⊢; omega
  · omega
theorem bef_as {a b : Ld} (h : bef a b = true) : bef b a = false := by
  cases hq : bef b a with
  | false => rfl
  | true => have := bef_tr h hq; rw [bef_irr] at this; cases this
def Srt (L : List Ld) : Prop := L.Pairwise (fun a b => bef a b = true)
/-- Different IDs. -/
def Dif (L : List Ld) : Prop := L.Pairwise (fun a b => a.id ≠ b.id)
theorem insR_srt {L : List Ld} {x : Ld} (h : L.Pairwise (fun a b => bef b a = true)) (hd : ∀ y ∈ L, y.id ≠ x.id) : (insR L x).Pairwise (fun a b => bef b a = true) := by
  induction L with
  | nil => exact List.pairwise_singleton _ _
  | cons y r ih =>
    obtain ⟨h1, h2⟩ := List.pairwise_cons.1 h
    unfold insR
    split
    · rename_i hb
      refine List.pairwise_cons.2 ⟨fun z hz => ?_, ih h2 fun z hz => hd z (by simp [hz])⟩
      rcases mem_insR.1 hz with rfl | hz
      · exact hb
      · exact h1 z hz
    · rename_i hb
      have hyx : bef y x = true := bef_to (fun e => hd y (by simp) e.symm) (by simpa using hb)
      refine List.pairwise_cons.2 ⟨fun z hz => ?_, h⟩
      rcases List.mem_cons.1 hz with rfl | hz
      · exact hyx
      · exact bef_tr (h1 z hz) hyx
theorem insL_srt {L : List Ld} {x : Ld} (h : Srt L) (hd : ∀ y ∈ L, y.id ≠ x.id) : Srt (insL L x) := by
  unfold Srt insL
  rw [List.pairwise_reverse]
  exact insR_srt (by rw [List.pairwise_reverse]; exact h) fun y hy => hd y (List.mem_reverse.1 hy)
theorem ord_srt {L : List Ld} (h : Dif L) : Srt (ord L) := by
  have hf : ∀ (L M : List Ld), Srt M → Dif L → (∀ x ∈ L, ∀ y ∈ M, y.id ≠ x.id) → Srt (L.foldl insL M) := by
    intro L
    induction L with
    | nil => intro M hM _ _; exact hM
    | cons x L ih =>
      intro M hM hL hx
      obtain ⟨h1, h2⟩ := List.pairwise_cons.1 hL
      rw [List.foldl_cons]
      refine ih _ (insL_srt hM fun y hy => hx x (by simp) y hy) h2 fun z hz y hy => ?_
      rcases mem_insL.1 hy with rfl | hy
      · exact h1 z hz
      · exact hx z (by simp [hz]) y hy
  exact hf L [] List.Pairwise.nil h fun x _ y hy => by simp at hy
/-- Two lists in order with the same loads are the same list. -/
theorem srt_ext : ∀ {l m : List Ld}, Srt l → Srt m → (∀ z, z ∈ l ↔ z ∈ m) → l = m
  | [], [], _, _, _ => rfl
  | [], y :: m, _, _, h => by have := (h y).2 (by simp); simp at this
  | x :: l, [], _, _, h => by have := (h x).1 (by simp); simp at this
  | x :: l, y :: m, hl, hm, h => by
    obtain ⟨l1, l2⟩ := List.pairwise_cons.1 hl
    obtain ⟨m1, m2⟩ := List.pairwise_cons.1 hm
    have e : x = y := by
      rcases List.mem_cons.1 ((h x).1 (by simp)) with e | hx
      · exact e
      · rcases List.mem_cons.1 ((h y).2 (by simp)) with e | hy
        · exact e.symm
        · have a1 := m1 x hx
          have a2 := l1 y hy
          rw [bef_as a1] at a2
          cases a2
    subst e
    rw [srt_ext l2 m2 fun z => ?_]
    have hz := h z
    rw [List.mem_cons, List.mem_cons] at hz
    constructor
    · intro hzl
      rcases hz.1 (.inr hzl) with e | h2
      · subst e; have := l1 z hzl; rw [bef_irr] at this; cases this
      · exact h2
    · intro hzm
      rcases hz.2 (.inr hzm) with e | h2
      · subst e; have := m1 z hzm; rw [bef_irr] at this; cases this
      · exact h2
theorem ord_one {L M : List Ld} (h : Dif L) (hM : Srt M) (he : ∀ z, z ∈ M ↔ z ∈ L) : M = ord L := srt_ext hM (ord_srt h) fun z => (he z).trans mem_ord.symm
end Pw
end Go.Proofs.Ytobbnbelacncjaa
