/-
  The law of byte slices and lists read, over a Reader's contracts.
-/
import Derived.Test.YtdfokmhpnniphaaWIf
namespace Go.Proofs.Ytdfokmhpnniphaa
open Go.RowKit
namespace W
open H
set_option linter.unusedVariables false

theorem rB_len {bs : List Int} (hb : Byt bs) (e m : Int) : (rB (bs, e) m).2.length ≤ bs.length := by
  have h := rS_len hb e m
  unfold rB
  split
  · simp
  · split
    · simp
    · simp only [List.length_take]
      omega
theorem rN_len : ∀ (n : Nat) (s : St), Byt s.1 → (rN s n).1.2 = 0 → (rN s n).2.length + (rN s n).1.1.length ≤ s.1.length
  | 0, s, _, _ => by simp [rN]
  | n + 1, s, hb, h => by
    have hs : s.2 = 0 := by
      rcases Decidable.em (s.2 = 0) with h0 | h0
      · exact h0
      · rw [rN_err h0] at h
        exact absurd h h0
    obtain ⟨bs, e⟩ := s
    obtain rfl : e = 0 := hs
    rw [rN] at h ⊢
    split at h
    · rename_i h1
      exact absurd h h1
    · rename_i h1
      rw [if_neg h1]
      have h2 : (rI (bs, 0)).1.2 = 0 := by simpa using h1
      have h3 := rI_len (bs := bs) hb h2
      have h5 : ((bs, (0 : Int)) : St).1.length = bs.length := rfl
      have h4 := rN_len n (rI (bs, 0)).1 (rI_byt hb 0) h
      simp only [List.length_cons] at h4 ⊢
      omega
theorem rL_len {bs : List Int} (hb : Byt bs) (e m : Int) : (rL (bs, e) m).2.length ≤ bs.length := by
  have h := rS_len hb e m
  unfold rL
  split
  · simp
  · rename_i h1
    have h2 := rN_len (rS (bs, e) m).2 (rS (bs, e) m).1 (rS_byt hb e m) (by simpa using h1)
    omega
theorem rdi_save {w w' : World} {B : Nat} {k : IntKind} {A : Option Addr} {zs : List Int} {G : Nat → Prop} (h : RdI w B k A zs) (hs : Save G w w') (hB : B ≤ w.heap.size) (hG : ∀ a, A = some a → ¬ G a.block) : RdI w' B k A zs := fun j hj => by
  obtain ⟨ad, e, hb, hc⟩ := h j hj
  exact ⟨ad, e, hb, (World.cell?_of_block (w := w) (hs.block _ (by rw [add_block]; omega) (by rw [add_block]; exact hG ad e))).trans hc⟩

end W
end Go.Proofs.Ytdfokmhpnniphaa
