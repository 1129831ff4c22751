/-
  What Check and Made say of loads; sameSupply.
-/
import Derived.Test.YtobbnbelacncjaaPwLiv
import Derived.Test.YtobbnbelacncjaaPwR3
import Derived.Test.YtobbnbelacncjaaPwMad
namespace Go.Proofs.Ytobbnbelacncjaa
open Go.RowKit
namespace Pw
open H
set_option linter.unusedVariables false
set_option linter.unusedSimpArgs false
set_option maxRecDepth 100000
theorem ck_zero {L : List Ld} (hp : ∀ x ∈ L, 0 ≤ x.pow ∧ x.pow ≤ 2147483647) (hd : Dif L) : ∀ i, i ≤ L.length → ck L i = 0
  | 0, _ => rfl
  | i + 1, h => by
    have ih := ck_zero hp hd i (by omega)
    have hx : L[i]? = some L[i] := List.getElem?_eq_getElem (by omega)
    have hpx := hp L[i] (List.getElem_mem _)
    refine ck_next ih hx (by omega) fun k y hk hy => ?_
    obtain ⟨hk2, rfl⟩ := List.getElem?_eq_some_iff.1 hy
    exact (List.pairwise_iff_getElem.1 hd) k i hk2 (by omega) hk
theorem chk_ok {b : Bt} {L : List Ld} (hb : b.ok = true) (hl : L.length ≤ 64) (hp : ∀ x ∈ L, 0 ≤ x.pow ∧ x.pow ≤ 2147483647) (hd : Dif L) : chkB b L = 0 := by
  unfold chkB
  rw [if_pos hb, if_neg (by omega)]
  exact ck_zero hp hd _ (Nat.le_refl _)
theorem ck_pre {L : List Ld} {i j : Nat} (h : ck L (i + j) = 0) : ck L i = 0 := by
  by_cases h0 : ck L i = 0
  · exact h0
  · rw [ck_stay h0 j] at h
    exact absurd h h0
theorem chk_inv {b : Bt} {L : List Ld} (h : chkB b L = 0) : b.ok = true ∧ L.length ≤ 64 ∧ (∀ x ∈ L, 0 ≤ x.pow ∧ x.pow ≤ 2147483647) ∧ Dif L := by
  unfold chkB at h
  split at h
  · rename_i hb
    split at h
    · cases h
    · rename_i hl
      have hall : ∀ i, i < L.length → ck L (i + 1) = 0 := fun i hi => ck_pre (j := L.length - (i + 1)) (by rw [show i + 1 + (L.length - (i + 1)) = L.length by omega]; exact h)
      have one : ∀ i (hi : i < L.length), ¬ (L[i].pow < 0 ∨ 2147483647 < L[i].pow) ∧ (L.take i).any (fun y => decide (y.id = L[i].id)) = false := by
        intro i hi
        have h1 := hall i hi
        have h0 : ck L i = 0 := ck_pre (j := 1) h1
        unfold ck at h1
        rw [if_pos h0, List.getElem?_eq_getElem hi] at h1
        dsimp only at h1
        split at h1
        · cases h1
        · rename_i hn
          refine ⟨hn, ?_⟩
          split at h1
          · cases h1
          · rename_i ha
            simpa using ha
      refine ⟨hb, by omega, fun x hx => ?_, ?_⟩
      · obtain ⟨i, hi, rfl⟩ := List.mem_iff_getElem.1 hx
        have := (one i hi).1
        omega
      · unfold Dif
        rw [List.pairwise_iff_getElem]
        intro i j hi hj hij he
        have h2 := (one j hj).2
        have h3 : (L.take j).any (fun y => decide (y.id = L[j].id)) = true := List.any_eq_true.2 ⟨L[i], List.mem_of_getElem? (i := i) (by rw [List.getElem?_take, if_pos hij]; exact List.getElem?_eq_getElem hi), decide_eq_true he⟩
        rw [h2] at h3
        cases h3
  · cases h
theorem made_ok (T : List Ld) : (madeL T).length ≤ 10 ∧ (∀ x ∈ madeL T, 0 ≤ x.pow ∧ x.pow ≤ 1000) ∧ Dif (madeL T) := by
  have h1 := made_len T T.length
  rw [List.take_length] at h1
  have hf : ∀ (L M : List Ld), ((∀ x ∈ M, 0 ≤ x.pow ∧ x.pow ≤ 1000) ∧ Dif M) → ((∀ x ∈ L.foldl addM M, 0 ≤ x.pow ∧ x.pow ≤ 1000) ∧ Dif (L.foldl addM M)) := by
    intro L
    induction L with
    | nil => exact fun M h => h
    | cons x L ih =>
      intro M ⟨h1, h2⟩
      refine ih (addM M x) ?_
      unfold addM
      split
      · exact ⟨h1, h2⟩
      · rename_i ha
        have hb := md_bd x.pow (m := 1001) (by omega)
        refine ⟨fun y hy => ?_, ?_⟩
        · rcases List.mem_append.1 hy with hy | hy
          · exact h1 y hy
          · rw [List.mem_singleton.1 hy]
            show 0 ≤ md x.pow 1001 ∧ md x.pow 1001 ≤ 1000
            omega
        · unfold Dif
          rw [List.pairwise_append]
          refine ⟨h2, by simp, fun y hy z hz he => ?_⟩
          rw [List.mem_singleton.1 hz] at he
          exact ha (List.any_eq_true.2 ⟨y, hy, decide_eq_true he⟩)
  exact ⟨h1, hf (T.take 10) [] ⟨fun x hx => absurd hx (List.not_mem_nil), List.Pairwise.nil⟩⟩
theorem made_pow (T : List Ld) : ∀ x ∈ madeL T, 0 ≤ x.pow ∧ x.pow ≤ 2147483647 := fun x hx => by have := (made_ok T).2.1 x hx; omega
theorem RdsLd.more {w : World} {B B' : Nat} {A : Option Addr} {xs : List Ld} (h : RdsLd w B A xs) (hb : B ≤ B') : RdsLd w B' A xs := fun j x hx => by
  obtain ⟨ad, h1, h2, h3⟩ := h j x hx
  exact ⟨ad, h1, by omega, h3⟩
theorem own_cap2 {w : World} {b n c : Nat} {e : TypeId} {A : Option Addr} {xs : List Value} (h : w.ownsRow b e 4 (.slice A n c) n xs) : n ≤ c ∧ c ≤ maxLen := by
  obtain ⟨_, ⟨hv, h0⟩ | ⟨g, cap, cur, hv, _, _, h1, h2, _⟩⟩ := h
  · injection hv with _ _ e3
    subst e3
    exact ⟨by omega, by unfold maxLen; omega⟩
  · injection hv with _ _ e3
    subst e3
    exact ⟨h1, h2⟩
theorem rmade2_any (T : List Ld) (A : Option Addr) (cap B : Nat) (w : World) (hB : B ≤ w.heap.size) (hlen : T.length ≤ 140737488351232) (hT : ∀ x ∈ T, x.Ok) (hR : RdsLd w B A T) :
    Calls Try.prog 13 #[.slice A T.length cap] w fun e w' => ∃ A c, e = .returned (.slice A (madeL T).length c) ∧ RdsLd w' w'.heap.size A (madeL T) ∧ ((madeL T).length ≤ c ∧ c ≤ maxLen) ∧ Below w.heap.size w w' := by
  refine (rmade_any T A cap B w hB hlen (fun x hx => (hT x hx).pow) hR).mono ?_
  rintro e w' ⟨v, rfl, ho, hB⟩
  obtain ⟨A, c, rfl⟩ := own_shape4 ho
  exact ⟨A, c, rfl, own_rds4 ho, own_cap2 ho, hB⟩
/-- A supply. -/
abbrev supV (g u s : Int) (A : Option Addr) (n c : Nat) (br : Bool) : Value := .agg #[.int .i64 g, .int .i64 u, .int .i64 s, .slice A n c, .bool br]
set_option maxHeartbeats 4000000 in
theorem same_any (g u s : Int) (br : Bool) (A A' : Option Addr) (c c' : Nat) (xs : List Int) (w : World) (hn : xs.length ≤ 140737488351232) (hr : RdI w w.heap.size .i64 A xs) (hr' : RdI w w.heap.size .i64 A' xs) :
    Calls Try.prog 20 #[supV g u s A xs.length c br, supV g u s A' xs.length c' br] w fun e w' => e = .returned (.bool true) ∧ Below w.heap.size w w' := by
  obtain ⟨W2, hW2⟩ : ∃ W2, W2 = (w.alloc (.cells #[.int .i64 g, .int .i64 u, .int .i64 s, .slice A xs.length c, .bool br] 33)).alloc (.cells #[.int .i64 g, .int .i64 u, .int .i64 s, .slice A' xs.length c', .bool br] 33) := ⟨_, rfl⟩
  have bel : Below w.heap.size w W2 := by rw [hW2]; exact bel2 w _ _
  have HS := Lib.hid (rsame_any A A' c c' xs xs W2 hn hn ((hr.below bel).more bel.size) ((hr'.below bel).more bel.size))
  rw [show decide (xs = xs) = true from decide_eq_true rfl] at HS
  have HB := Lib.hid bel
  have HW := Lib.hid hW2
  clear hr hr' bel hW2 hn
  generalize xs.length = n at *
  go_enter Try.func20, Try.ntmps20
  go_wp2_with (go_at_call 22; rw [← HW.out]; refine HS.out.mono ?_; rintro e w3 ⟨rfl, hB⟩; have HB3 := Lib.hid hB; clear hB)
  go_ret
  exact ⟨rfl, bt HB.out HB3.out⟩
end Pw
end Go.Proofs.Ytobbnbelacncjaa
