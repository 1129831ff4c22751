/-
  The program's Reader: Bytes.
-/
import Derived.Test.YtlmbpbhdbgadjaaVRI
namespace Go.Proofs.Ytlmbpbhdbgadjaa
open Go.RowKit
namespace W
open H
set_option linter.unusedVariables false

theorem rS_zero {s : St} {m : Int} (h : (rS s m).1.2 ≠ 0) : (rS s m).2 = 0 := by
  unfold rS at h ⊢
  by_cases h1 : (rU s).1.2 ≠ 0
  · rw [if_pos h1]
  · rw [if_neg h1] at h ⊢
    by_cases h2 : m < ((rU s).2 : Nat)
    · rw [if_pos h2]
    · rw [if_neg h2] at h
      exact absurd h h1

theorem RdI.take {w : World} {B : Nat} {k : IntKind} {A : Option Addr} {zs : List Int} (m : Nat) (h : RdI w B k A zs) : RdI w B k A (zs.take m) := fun j hj => by
  rw [List.length_take] at hj
  obtain ⟨ad, e, hb, hcc⟩ := h j (by omega)
  exact ⟨ad, e, hb, by rw [hcc, List.getElem?_take, if_pos (by omega)]⟩
theorem _root_.Go.World.ownsRow.low {w : World} {base base' : Nat} {e : TypeId} {v : Value} {n : Nat} {xs : List Value} (h : w.ownsRow base e 1 v n xs) (hb : base' ≤ base) : w.ownsRow base' e 1 v n xs := by
  refine ⟨h.1, ?_⟩
  rcases h.2 with h2 | ⟨g, cap, cur, hv, hg, hr⟩
  · exact .inl h2
  · exact .inr ⟨g, cap, cur, hv, by omega, hr⟩

/-- What Bytes and Ints of a Reader leave: a new slice of the elements read, and the Reader behind them. -/
def RdPostV (w : World) (b : Nat) (A : Option Addr) (n c : Nat) (bs : List Int) (T : TypeId) (kd : IntKind) (R : St × List Int) (r : Ending) (w' : World) : Prop :=
  ∃ v, r = .returned v ∧ w'.ownsRow w.heap.size T 1 v R.2.length (R.2.map (Value.int kd)) ∧ ∃ k' e', RAt w' b A n c bs k' e' ∧ StOf bs k' e' R.1 ∧ Save (· = b) w w'

end W
end Go.Proofs.Ytlmbpbhdbgadjaa
