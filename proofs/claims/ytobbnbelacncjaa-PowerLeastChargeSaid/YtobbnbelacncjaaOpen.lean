/-
  How the arguments of a law are opened: slices of integers; their bulk; how the program is laid.
-/
import Derived.Test.YtobbnbelacncjaaKit
import Derived.Test.YtobbnbelacncjaaRows
import Derived.ProofKit
import Derived.OpenShut
import Derived.ShutString
import Derived.ChangeOld
import Derived.SizedLaws
import Derived.Deep.CondSized
import Derived.Deep.Slices
import Derived.Deep.Fields
namespace Go.Proofs.Ytobbnbelacncjaa
open Go.ChangeShapes Go.WideShapes Go.ChangeAt Go.RowKit Go.Deep
namespace O
open H
set_option linter.unusedVariables false

theorem own : ownKnob Try.prog.godebug = none := by kernel_rfl
theorem laidOut : laidOutB Try.prog = true := by kernel_rfl

theorem bulk_lits {HH : Type} (k : IntKind) : ∀ zs : List Int, Rows.uptoBulkAll (lits (H := HH) k zs) = zs.length
  | [] => rfl
  | z :: zs => by
    have ih := bulk_lits (HH := HH) k zs
    simp only [lits, List.map_cons] at ih ⊢
    rw [Rows.uptoBulkAll, ih, Rows.uptoBulk, List.length_cons]
    · omega
    all_goals (intros; simp_all)

/-- A slice of integers that came in. -/
theorem open_is {HH : Type} {enc : TypeId × Value → HH} {W : World} {t e : TypeId} {k : IntKind} {fuel : Nat} {cs : List Value} {x : DataW HH × List MemPlace}
    (ht : Try.prog.underlying t = some (.slice e)) (he : Try.prog.underlying e = some (.int k)) (hc : Try.prog.cellsOf e = 1) (h : DataW.trod enc Try.prog W 0 (fun _ => true) true fuel t cs = some x) :
    ∃ (A : Option Addr) (len cap : Nat) (zs : List Int), cs = [.slice A len cap] ∧ zs.length = len ∧ len ≤ cap ∧ cap ≤ maxLen ∧ (A = none → cap = 0) ∧ RdI W W.heap.size k A zs ∧ (∀ n ∈ zs, (Lit.int k n).wf = true) ∧ zs.length + 1 ≤ Rows.uptoBulk x.1 := by
  rcases open_ints ht he hc h with ⟨rfl, rfl⟩ | ⟨a, l, c, zs, rfl, _, hl, hm, hz, hx, hcell, hwz⟩
  · exact ⟨none, 0, 0, [], rfl, rfl, Nat.le_refl _, Nat.zero_le _, fun _ => rfl, RdI.nil, by simp, by simp [Rows.uptoBulk]⟩
  · have hz' : zs.length = c := by simpa using hz
    refine ⟨some a, l, c, zs.take l, rfl, by simp; omega, hl, hm, (by intro h; cases h), fun j hj => ?_, fun n hn => hwz n (List.mem_of_mem_take hn), ?_⟩
    · have hj' : j < l := by simp at hj; omega
      have hcj := hcell j (by omega)
      refine ⟨a, rfl, by have := cell_lt hcj; rwa [add_block] at this, ?_⟩
      rw [hcj]
      simp [hj', List.getD]
    · rw [hx, Rows.uptoBulk, bulk_lits, bulk_lits]
      omega

theorem open_isT {HH : Type} {enc : TypeId × Value → HH} {W : World} {t e : TypeId} {k : IntKind} {a : Option Addr} {len cap : Nat} {d : DataW HH} {p : List MemPlace}
    (ht : Try.prog.underlying t = some (.slice e)) (he : Try.prog.underlying e = some (.int k)) (hc : Try.prog.cellsOf e = 1) (h : DataW.Trod enc Try.prog W 0 (fun _ => true) true t (.slice a len cap) d p) :
    ∃ zs : List Int, zs.length = len ∧ len ≤ cap ∧ cap ≤ maxLen ∧ (a = none → cap = 0) ∧ RdI W W.heap.size k a zs ∧ (∀ n ∈ zs, (Lit.int k n).wf = true) ∧ zs.length + 1 ≤ Rows.uptoBulk d := by
  obtain ⟨fuel, hf⟩ := h
  obtain ⟨A, l, c, zs, hcs, h1, h2, h3, h4, h5, h6, h7⟩ := open_is ht he hc hf
  simp [Value.cells] at hcs
  obtain ⟨rfl, rfl, rfl⟩ := hcs
  exact ⟨zs, h1, h2, h3, h4, h5, h6, h7⟩

theorem open_el {HH : Type} {enc : TypeId × Value → HH} {W : World} {t e : TypeId} {k : IntKind} {a : Option Addr} {len cap : Nat} {d : DataW HH} {p : List MemPlace}
    (ht : Try.prog.underlying t = some (.slice e)) (he : Try.prog.underlying e = some (.int k)) (hc : Try.prog.cellsOf e = 1) (h : DataW.Trod enc Try.prog W 0 (fun _ => true) true t (.slice a len cap) d p) :
    len = 0 ∨ ∃ elems spare, d = .slice elems spare ∧ len ≤ elems.length + spare.length := by
  obtain ⟨fuel, hf⟩ := h
  rcases open_ints ht he hc hf with ⟨hcs, _⟩ | ⟨x, l, c, zs, hcs, _, hl, hm, hz, hx, hcell, hwz⟩
  · simp [Value.cells] at hcs
    exact .inl hcs.2.1
  · simp [Value.cells] at hcs
    obtain ⟨rfl, rfl, rfl⟩ := hcs
    have hz' : zs.length = cap := by simpa using hz
    exact .inr ⟨_, _, (Prod.mk.inj hx).1, by simp [lits]; omega⟩
end O
end Go.Proofs.Ytobbnbelacncjaa
