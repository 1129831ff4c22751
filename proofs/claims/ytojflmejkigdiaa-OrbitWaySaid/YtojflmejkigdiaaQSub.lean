/-
  A table without one of its windows; what Arrival returns, in cases.
-/
import Derived.Test.YtojflmejkigdiaaQTab
import Derived.Test.YtojflmejkigdiaaQLow
import Derived.Test.YtojflmejkigdiaaQCkB
import Derived.Test.YtojflmejkigdiaaQArr
namespace Go.Proofs.Ytojflmejkigdiaa
open Go.RowKit
namespace Q
open H
set_option linter.unusedVariables false
set_option linter.unusedSimpArgs false
theorem own_tab {W : World} {b n : Nat} {e : TypeId} {v : Value} {L : List Wn} (h : W.ownsRow b e 6 v n (flat6 L)) (hn : n = L.length) : ∃ A c, v = .slice A L.length c ∧ OwnT W A L c := by
  subst hn
  by_cases h0 : 0 < L.length
  · obtain ⟨g, c, rfl, h1, h2, h3, h4, _⟩ := own_r6 h h0
    exact ⟨_, c, rfl, .inr ⟨g, rfl, h1, h2, h3, h4⟩⟩
  · have hL : L = [] := List.eq_nil_of_length_eq_zero (by omega)
    subst hL
    have hc := fun g (hg : v.ownBlock = some g) => h.cells (g := g) hg
    obtain ⟨hl, ⟨rfl, _⟩ | ⟨g, c, cur, rfl, hg, hh, hnc, hcm, hcs, ht⟩⟩ := h
    · exact ⟨none, 0, rfl, .inl ⟨rfl, rfl, rfl⟩⟩
    · refine ⟨_, c, rfl, .inr ⟨g, rfl, hnc, hcm, ?_, fun j u hu => by simp [flat6] at hu, cur, e, hh⟩⟩
      by_cases h2 : g < W.heap.size
      · exact h2
      · rw [Array.getElem?_eq_none (by omega)] at hh; cases hh
def less (T : List Wn) (o : Nat) : List Wn := T.take o ++ T.drop (o + 1)
theorem less_sub (T : List Wn) (o : Nat) : (less T o).Sublist T := by
  unfold less
  rw [← List.eraseIdx_eq_take_drop_succ]
  exact List.eraseIdx_sublist _ _
theorem less_len {T : List Wn} {o : Nat} (h : o < T.length) : (less T o).length = T.length - 1 := by
  unfold less
  rw [List.length_append, List.length_take, List.length_drop]
  omega
theorem less_flat (T : List Wn) (o : Nat) : flat6 (T.take o) ++ flat6 (T.drop (o + 1)) = flat6 (less T o) := (flat6_app _ _).symm
/-- Arrival, in cases. -/
theorem parr_x (T : List Wn) (A : Option Addr) (cap B : Nat) (c s : Nat) (tick size : Int) (w : World) (hB : B ≤ w.heap.size) (hlen : T.length ≤ 1000) (hc : c < 12) (hst : s < 9) (ht : 0 ≤ tick ∧ tick ≤ 1000000) (hs : 1 ≤ size ∧ size ≤ 100000) (hR : RdsWn w B A T) :
    Calls Try.prog 28 #[.slice A T.length cap, .int .i64 (c : Int), .int .i64 (s : Int), .int .i64 tick, .int .i64 size] w fun e w' => (∃ E, Erl T c tick size E ∧ ((gt E (12 + s) = 1000001 ∧ e = .returned (.tuple #[.int .i64 0, .slice none 0 0, .bool false])) ∨ (Nd E (12 + s) ∧ ∃ A1 c1 l, Chn (fun n => befL E n size (hl T)) c (12 + s) l ∧ e = .returned (.tuple #[.int .i64 (gt E (12 + s)), .slice A1 l.length c1, .bool true]) ∧ RdI w' w'.heap.size .i64 A1 l))) ∧ Below w.heap.size w w' := by
  refine (parr_any T A cap B c s tick size w hB hlen hc hst ht hs hR).mono ?_
  rintro e w' ⟨⟨E, hE, h⟩, hBe⟩
  refine ⟨⟨E, hE, ?_⟩, hBe⟩
  rcases h with h | ⟨hn, v, l, hch, rfl, hO⟩
  · exact .inl h
  · obtain ⟨A1, c1, rfl⟩ := own_shape hO
    exact .inr ⟨hn, A1, c1, l, hch, rfl, own_RdI hO⟩
end Q
end Go.Proofs.Ytojflmejkigdiaa
