/-
  Small facts on memory; batteries and loads as data.
-/
import Derived.Test.YtobbnbelacncjaaApp2
import Derived.Test.YtobbnbelacncjaaQMath
import Derived.Test.YtobbnbelacncjaaPwOpen
import Derived.Deep.DeepCutAuto
import Derived.Deep.RegionHeld3
import Derived.Deep.LoopGhost
import Derived.Deep.QuietTactic
namespace Go.Proofs.Ytobbnbelacncjaa
open Go.RowKit
namespace Pw
open H
set_option linter.unusedVariables false
set_option linter.unusedSimpArgs false
set_option maxRecDepth 100000
abbrev I64 (a : Int) : Prop := -9223372036854775808 ≤ a ∧ a ≤ 9223372036854775807
theorem cell_top (w : World) (cs : Array Value) (t : TypeId) (o : Nat) : (w.alloc (.cells cs t)).cell? ⟨w.heap.size, o, none⟩ = cs[o]? := by
  rw [World.cell?_alloc_at _ _ _ _ (by simp)]
theorem cell_under {W : World} {a : Addr} {v : Value} (o : Obj) (h : W.cell? a = some v) : (W.alloc o).cell? a = some v :=
  (((Below.refl W.heap.size W).alloc (Nat.le_refl _) o).cell (World.block_lt_of_cell? _ _ h)).trans h
theorem heap_top (w : World) (o : Obj) : (w.alloc o).heap[w.heap.size]? = some o := by
  show (w.heap.push o)[w.heap.size]? = _
  simp
theorem heap_keep {W w3 : World} {b : Nat} {o : Obj} (hB : Below W.heap.size W w3) (h : W.heap[b]? = some o) : w3.heap[b]? = some o := by
  have hb : b < W.heap.size := by
    by_cases hb : b < W.heap.size
    · exact hb
    · rw [Array.getElem?_eq_none (by omega)] at h; cases h
  exact (hB.block b hb).trans h
theorem below_cell {W w3 : World} {a : Addr} {v : Value} (hB : Below W.heap.size W w3) (h : W.cell? a = some v) : w3.cell? a = some v := (hB.cell (World.block_lt_of_cell? _ _ h)).trans h
theorem infoI : (Try.prog.info? 3).map (fun i => (i.zero, i.size, i.bytes)) = some (some (.int .i64 0), 1, 8) := by kernel_rfl
theorem cell_new1 (w : World) (x : Value) (t : TypeId) : ∀ (j : Nat) (u : Value), [x][j]? = some u → (w.alloc (.cells #[x] t)).cell? ⟨w.heap.size, j, none⟩ = some u := fun j u h => by
  match j, h with
  | 0, h => obtain rfl := Option.some.inj h; exact cell_top _ _ _ _
abbrev ints (l : List Int) : List Value := l.map (Value.int .i64)
theorem own_any {w : World} {base n n' : Nat} {e : TypeId} {v : Value} {xs xs' : List Value} (h : w.ownsRow base e 1 v n xs) (hn : n = n') (hx : xs = xs') : w.ownsRow base e 1 v n' xs' := by subst hn; subst hx; exact h
theorem below_drew (w : World) : Below w.heap.size w w.drew := (Below.refl _ _).drew
theorem bel1 (w : World) (o : Obj) : Below w.heap.size w (w.alloc o) := (Below.refl _ w).alloc (Nat.le_refl _) _
theorem bel2 (w : World) (o p : Obj) : Below w.heap.size w ((w.alloc o).alloc p) := (bel1 w o).alloc (by simp) _
theorem belT {w V : World} (o : Obj) (h : Below (w.alloc o).heap.size (w.alloc o) V) : Below w.heap.size w V := (bel1 w o).trans (h.mono (by simp))
theorem belTT {w V : World} (o p : Obj) (h : Below ((w.alloc o).alloc p).heap.size ((w.alloc o).alloc p) V) : Below w.heap.size w V := (bel2 w o p).trans (h.mono (by simp; omega))
theorem bt {A B C : World} (h : Below A.heap.size A B) (k : Below B.heap.size B C) : Below A.heap.size A C := h.trans (k.mono h.size)
theorem cell_drw {W : World} {a : Addr} {v : Value} (h : W.cell? a = some v) : W.drew.cell? a = some v := below_cell (below_drew W) h
/-- A battery. -/
structure Bt where
  cap : Int
  chg : Int
  res : Int
abbrev Bt.v (b : Bt) : Value := .agg #[.int .i64 b.cap, .int .i64 b.chg, .int .i64 b.res]
abbrev Ld.v (x : Ld) : Value := .agg #[.int .i64 x.id, .int .i64 x.pow, .int .i64 x.pri, .bool x.ess]
def Bt.ok (b : Bt) : Bool := decide (0 ≤ b.res ∧ b.res ≤ b.cap ∧ b.cap ≤ 2147483647 ∧ 0 ≤ b.chg ∧ b.chg ≤ b.cap)
/-- Is it served before? -/
def bef (a b : Ld) : Bool := if a.ess = b.ess then (if a.ess = false ∧ a.pri ≠ b.pri then decide (b.pri < a.pri) else decide (a.id < b.id)) else a.ess
/-- Is a craft in the dark? -/
def dk (a t : Int) (x : Q.Wn) : Bool := decide (x.kind = 3 ∧ x.a = a ∧ x.fr ≤ t ∧ t < x.un)
def gn (T : List Q.Wn) (a t sun : Int) : Int := if T.any (dk a t) = true then 0 else sun
def endT : List Q.Wn → Int → Int
  | [], n => n
  | x :: T, n => endT T (max n x.un)
/-- The need before the last n ticks. -/
def nd (T : List Q.Wn) (a e sun : Int) : Nat → Int
  | 0 => 0
  | n + 1 => max 0 (nd T a e sun n + e - gn T a (endT T 0 - 1 - n) sun)
/-- The charge after n ticks; none: it did not suffice. -/
def sv (T : List Q.Wn) (a e sun cap from_ : Int) (chg : Int) : Nat → Option Int
  | 0 => some chg
  | n + 1 => match sv T a e sun cap from_ chg n with
    | none => none
    | some c => if min cap (c + gn T a (from_ + n) sun) < e then none else some (min cap (c + gn T a (from_ + n) sun) - e)
/-- The power of the essential loads. -/
def esum : List Ld → Int
  | [] => 0
  | x :: L => (if x.ess = true then x.pow else 0) + esum L
theorem endT_snoc (T : List Q.Wn) (x : Q.Wn) (n : Int) : endT (T ++ [x]) n = max (endT T n) x.un := by
  induction T generalizing n with
  | nil => rfl
  | cons y T ih => exact ih _
theorem esum_snoc (L : List Ld) (x : Ld) : esum (L ++ [x]) = esum L + (if x.ess = true then x.pow else 0) := by
  induction L with
  | nil => simp [esum]
  | cons y L ih => simp only [List.cons_append, esum, ih]; omega
theorem endT_step {T : List Q.Wn} {x : Q.Wn} {i : Nat} (h : T[i]? = some x) : endT (T.take (i + 1)) 0 = max (endT (T.take i) 0) x.un := by
  rw [List.take_add_one, h]; exact endT_snoc _ _ _
theorem esum_step {L : List Ld} {x : Ld} {i : Nat} (h : L[i]? = some x) : esum (L.take (i + 1)) = esum (L.take i) + (if x.ess = true then x.pow else 0) := by
  rw [List.take_add_one, h]; exact esum_snoc _ _
theorem endT_bd {T : List Q.Wn} (h : ∀ x ∈ T, x.un ≤ 1000000) {n : Int} (hn : 0 ≤ n ∧ n ≤ 1000000) : 0 ≤ endT T n ∧ endT T n ≤ 1000000 := by
  induction T generalizing n with
  | nil => exact hn
  | cons y T ih =>
    have hy := h y (by simp)
    exact ih (fun x hx => h x (by simp [hx])) (by omega)
theorem esum_bd {L : List Ld} (h : ∀ x ∈ L, 0 ≤ x.pow ∧ x.pow ≤ 2147483647) : 0 ≤ esum L ∧ esum L ≤ 2147483647 * L.length := by
  induction L with
  | nil => simp [esum]
  | cons y L ih =>
    have hy := h y (by simp)
    have h2 := ih fun x hx => h x (by simp [hx])
    simp only [esum, List.length_cons]
    rw [show (2147483647 : Int) * ((L.length + 1 : Nat) : Int) = 2147483647 * L.length + 2147483647 by rw [Int.natCast_add, Int.mul_add]; simp]
    split <;> omega
theorem gn_bd (T : List Q.Wn) (a t : Int) {sun c : Int} (h : 0 ≤ sun ∧ sun ≤ c) : 0 ≤ gn T a t sun ∧ gn T a t sun ≤ c := by unfold gn; split <;> omega
theorem nd_bd (T : List Q.Wn) (a : Int) {e sun : Int} (he : 0 ≤ e ∧ e ≤ 2147483647) (hs : 0 ≤ sun ∧ sun ≤ 2147483647) : ∀ n : Nat, 0 ≤ nd T a e sun n ∧ nd T a e sun n ≤ 2147483647 * n
  | 0 => by simp [nd]
  | n + 1 => by
    have ih := nd_bd T a he hs n
    have hg := gn_bd T a (endT T 0 - 1 - n) hs
    have e1 : (2147483647 : Int) * ((n + 1 : Nat) : Int) = 2147483647 * n + 2147483647 := by rw [Int.natCast_add, Int.mul_add]; simp
    rw [e1]
    show 0 ≤ max 0 (nd T a e sun n + e - gn T a (endT T 0 - 1 - n) sun) ∧ max 0 (nd T a e sun n + e - gn T a (endT T 0 - 1 - n) sun) ≤ _
    omega
theorem sv_bd (T : List Q.Wn) (a : Int) {e sun cap from_ chg : Int} (he : 0 ≤ e) (hc : 0 ≤ chg ∧ chg ≤ cap) (hs : 0 ≤ sun ∧ sun ≤ 2147483647) : ∀ (n : Nat) (c : Int), sv T a e sun cap from_ chg n = some c → 0 ≤ c ∧ c ≤ cap
  | 0, c, h => by rw [← Option.some.inj h]; exact hc
  | n + 1, c, h => by
    unfold sv at h
    split at h
    · cases h
    · rename_i d hd
      have ih := sv_bd T a he hc hs n d hd
      split at h
      · cases h
      · rw [← Option.some.inj h]
        omega
theorem sv_none (T : List Q.Wn) (a e sun cap from_ chg : Int) {n : Nat} (h : sv T a e sun cap from_ chg n = none) : ∀ m : Nat, sv T a e sun cap from_ chg (n + m) = none
  | 0 => h
  | m + 1 => by
    have ih := sv_none T a e sun cap from_ chg h m
    show sv T a e sun cap from_ chg ((n + m) + 1) = none
    unfold sv
    rw [ih]
end Pw
end Go.Proofs.Ytobbnbelacncjaa
