/-
  A tick of a battery as data.
-/
import Derived.Test.YtobbnbelacncjaaPwRow
namespace Go.Proofs.Ytobbnbelacncjaa
open Go.RowKit
namespace Pw
open H
set_option linter.unusedVariables false
set_option linter.unusedSimpArgs false
structure St where
  chg : Int
  used : Int
  ids : List Int
  br : Bool
/-- A load's turn. -/
def turn (res : Int) (s : St) (x : Ld) : St := if x.ess = true then (if s.chg - x.pow < 0 then ⟨s.chg, s.used, s.ids, true⟩ else ⟨s.chg - x.pow, s.used + x.pow, s.ids ++ [x.id], s.br⟩) else (if s.chg - x.pow < res then s else ⟨s.chg - x.pow, s.used + x.pow, s.ids ++ [x.id], s.br⟩)
def gained (b : Bt) (gain : Int) : Int := min gain (b.cap - b.chg)
def st0 (b : Bt) (gain : Int) : St := ⟨b.chg + gained b gain, 0, [], false⟩
def run (res : Int) (s : St) (L : List Ld) : St := L.foldl (turn res) s
/-- What a tick does. -/
def tickS (b : Bt) (gain : Int) (L : List Ld) : St := run b.res (st0 b gain) (ord L)
theorem run_step {res : Int} {s : St} {L : List Ld} {x : Ld} {i : Nat} (h : L[i]? = some x) : run res s (L.take (i + 1)) = turn res (run res s (L.take i)) x := by
  unfold run
  rw [List.take_add_one, h, Option.toList_some, List.foldl_append]
  rfl
structure StOk (cap : Int) (n : Nat) (s : St) : Prop where
  chg : 0 ≤ s.chg ∧ s.chg ≤ cap
  used : 0 ≤ s.used ∧ s.used ≤ 2147483647 * n
  ids : s.ids.length ≤ n
theorem turn_ok {cap res : Int} {n : Nat} {s : St} {x : Ld} (h : StOk cap n s) (hr : 0 ≤ res) (hx : 0 ≤ x.pow ∧ x.pow ≤ 2147483647) : StOk cap (n + 1) (turn res s x) := by
  obtain ⟨h1, h2, h3⟩ := h
  have e : (2147483647 : Int) * ((n + 1 : Nat) : Int) = 2147483647 * n + 2147483647 := by rw [Int.natCast_add, Int.mul_add]; simp
  unfold turn
  split
  · split
    · exact ⟨h1, by rw [e]; dsimp only; omega, by dsimp only; omega⟩
    · exact ⟨by dsimp only; omega, by rw [e]; dsimp only; omega, by simp; omega⟩
  · split
    · exact ⟨h1, by rw [e]; omega, by omega⟩
    · exact ⟨by dsimp only; omega, by rw [e]; dsimp only; omega, by simp; omega⟩
theorem run_ok {cap res : Int} {s : St} (hr : 0 ≤ res) : ∀ {L : List Ld} {n : Nat}, (∀ x ∈ L, 0 ≤ x.pow ∧ x.pow ≤ 2147483647) → ∀ {s : St}, StOk cap n s → StOk cap (n + L.length) (run res s L)
  | [], n, _, s, h => h
  | x :: L, n, hL, s, h => by
    have h2 := run_ok (s := s) hr (L := L) (n := n + 1) (fun y hy => hL y (by simp [hy])) (turn_ok h hr (hL x (by simp)))
    rw [List.length_cons, show n + (L.length + 1) = n + 1 + L.length by omega]
    exact h2
theorem st0_ok {b : Bt} (hb : b.ok = true) {gain : Int} (hg : 0 ≤ gain) : StOk b.cap 0 (st0 b gain) := by
  unfold Bt.ok at hb
  simp only [decide_eq_true_eq] at hb
  unfold st0 gained
  exact ⟨by dsimp only; omega, by simp, by simp⟩
theorem mem_insR {L : List Ld} {x z : Ld} : z ∈ insR L x ↔ z = x ∨ z ∈ L := by
  induction L with
  | nil => simp [insR]
  | cons y r ih =>
    unfold insR
    split
    · rw [List.mem_cons, ih, List.mem_cons]
      constructor
      · rintro (h | h | h)
        · exact .inr (.inl h)
        · exact .inl h
        · exact .inr (.inr h)
      · rintro (h | h | h)
        · exact .inr (.inl h)
        · exact .inl h
        · exact .inr (.inr h)
    · simp
theorem mem_insL {L : List Ld} {x z : Ld} : z ∈ insL L x ↔ z = x ∨ z ∈ L := by
  unfold insL
  rw [List.mem_reverse, mem_insR, List.mem_reverse]
theorem mem_ord {L : List Ld} {z : Ld} : z ∈ ord L ↔ z ∈ L := by
  have h : ∀ (L M : List Ld), z ∈ L.foldl insL M ↔ z ∈ M ∨ z ∈ L := by
    intro L
    induction L with
    | nil => simp
    | cons x L ih =>
      intro M
      rw [List.foldl_cons, ih, mem_insL, List.mem_cons]
      constructor
      · rintro ((h | h) | h)
        · exact .inr (.inl h)
        · exact .inl h
        · exact .inr (.inr h)
      · rintro (h | h | h)
        · exact .inl (.inr h)
        · exact .inl (.inl h)
        · exact .inr h
  rw [ord, h]
  simp
theorem own_rds4 {W : World} {b : Nat} {A : Option Addr} {c : Nat} {L : List Ld} (h : W.ownsRow b 41 4 (.slice A L.length c) L.length (flat4 L)) : RdsLd W W.heap.size A L := by
  intro j x hx
  have hj := (List.getElem?_eq_some_iff.1 hx).1
  have h2 := h
  obtain ⟨_, ⟨_, h0⟩ | ⟨g, cap, cur, hv, _, hh, _⟩⟩ := h2
  · omega
  · have h3 : W.ownsRow b 41 4 (.slice (some ⟨g, 0, none⟩) L.length cap) L.length (flat4 L) := by rw [← hv]; exact h
    obtain ⟨g', c', hv', hO⟩ := own_l h3 rfl (by omega)
    have e : A = some ⟨g, 0, none⟩ := by injection hv
    have e2 : g' = g := by injection hv' with e3; injection e3 with e4; injection e4 with e5; exact e5.symm
    subst e2
    obtain ⟨x0, x1, x2, x3⟩ := hO.rd hx
    refine ⟨_, e, hlt_of hh, ?_⟩
    rw [ad_add]
    exact ⟨x0, x1, x2, x3⟩
end Pw
end Go.Proofs.Ytobbnbelacncjaa
