/-
  The parts of a dimension's text and their join.
-/
import Derived.Test.YthcehhonahgfmaaDoorUParse
import Derived.Test.YthcehhonahgfmaaDoorUName
import Derived.Lib.Join
namespace Go.Proofs.YthcehhonahgfmaaDoor
namespace U
set_option linter.unusedVariables false

theorem pcs_app : ∀ (a b : List (Nat × Int)), pcs (a ++ b) = pcs a ++ pcs b
  | [], b => rfl
  | (j, e) :: r, b => by
    show (if e = 0 then pcs (r ++ b) else fac j e :: pcs (r ++ b)) = (if e = 0 then pcs r else fac j e :: pcs r) ++ pcs b
    rw [pcs_app r b]
    split <;> simp
def exps (x : Dm) (j : Nat) : List (Nat × Int) := (List.range j).map fun i => (i, x.list[i]?.getD 0)
def pcsK (x : Dm) (j : Nat) : List (List UInt8) := pcs (exps x j)
theorem pcsK_succ (x : Dm) (j : Nat) : pcsK x (j + 1) = if x.list[j]?.getD 0 = 0 then pcsK x j else pcsK x j ++ [fac j (x.list[j]?.getD 0)] := by
  unfold pcsK exps
  rw [List.range_succ, List.map_append, pcs_app]
  show _ ++ (if x.list[j]?.getD 0 = 0 then [] else [fac j (x.list[j]?.getD 0)]) = _
  split <;> simp
theorem base_ne (j : Nat) : base j ≠ [] := by unfold base; split <;> simp
theorem fac_ne (j : Nat) (e : Int) : fac j e ≠ [] := by
  unfold fac
  split
  · exact base_ne j
  · simp
theorem pcsK_ne (x : Dm) : ∀ j, ∀ p ∈ pcsK x j, p ≠ []
  | 0, p, h => by cases h
  | j + 1, p, h => by
    rw [pcsK_succ] at h
    split at h
    · exact pcsK_ne x j p h
    · rcases List.mem_append.1 h with h | h
      · exact pcsK_ne x j p h
      · rw [List.mem_singleton.1 h]; exact fac_ne _ _
theorem nmK_join (x : Dm) : ∀ j, nmK x j = joinT (pcsK x j)
  | 0 => rfl
  | j + 1 => by
    show addF (nmK x j) (base j) (x.list[j]?.getD 0) = _
    rw [nmK_join x j, pcsK_succ]
    unfold addF
    split
    · rfl
    · rw [joinT_snoc _ _ (pcsK_ne x j)]
      rfl
theorem joinT_lib : ∀ ps, joinT ps = Lib.join ps [42]
  | [] => by simp [joinT, Lib.join, List.intercalate]
  | [p] => by simp [joinT, Lib.join, List.intercalate]
  | p :: q :: r => by
    have := joinT_lib (q :: r)
    simp only [Lib.join, List.intercalate, List.intersperse_cons_cons, List.flatten_cons] at this ⊢
    show p ++ 42 :: joinT (q :: r) = _
    rw [this]
    simp
theorem nameT_join (x : Dm) : nameT x = Lib.join (pcsK x 5) [42] := (nmK_join x 5).trans (joinT_lib _)
theorem pcsK_len (x : Dm) : ∀ j, (pcsK x j).length ≤ j
  | 0 => Nat.le_refl _
  | j + 1 => by
    rw [pcsK_succ]
    have := pcsK_len x j
    split
    · omega
    · rw [List.length_append]; simp; omega
end U
end Go.Proofs.YthcehhonahgfmaaDoor
