/-
  append of a slice of integers, nil or not, onto a slice of the call's own: one law for the walk.
-/
import Derived.Test.YtpkhbglmbdpodaaDoorKit
import Derived.Laws.AppendOwnNone
import Derived.WalkKit
namespace Go.Proofs.YtpkhbglmbdpodaaDoor
open Go.RowKit
namespace H
theorem below_grown {W w1 : World} {base k : Nat} {e : TypeId} {v : Value} {xs : List Value} (hb : base ≤ W.heap.size) (hrow : W.ownsRow base e 1 v k xs) (hgrow : W.grownBy w1 v.ownBlock) : Below base W w1 :=
  ⟨hgrow.os, hgrow.tape, hgrow.output, hgrow.size, fun j hj => hgrow.block j (by omega) (fun h => by
    rcases hrow.2 with ⟨rfl, _⟩ | ⟨g, cap, cur, rfl, hg, _⟩
    · cases h
    · have : j = g := by simpa [Value.ownBlock] using h
      omega)⟩
theorem wpList_append_ints {P : Program} {w : World} {ops : Array Oper} {rest : List Oper} {o : Oper} {a : Act} {Q : Exit → Act → World → Prop} (hgd : o.guard = none) (s x : Operand) (t : TypeId)
    (ho : o.op = .call { callee := .builtin .append, args := #[s, x], argTypes := #[t, t] })
    (base : Nat) (e : TypeId) (i : TypeInfo) (k : IntKind) (bytes : Nat) (ht : P.underlying t = some (.slice e)) (hi : P.info? e = some i) (hz : i.zero = some (.int k 0)) (hsize : i.size = 1) (hby : i.bytes = bytes)
    (v : Value) (n : Nat) (xs : List Value) (hs : a.eval s = v) (hown : w.ownsRow base e 1 v n xs)
    (A : Option Addr) (m c B : Nat) (zs : List Int) (hx : a.eval x = .slice A m c) (hl : zs.length = m) (hnil : A = none → c = 0) (hr : RdI w B k A zs)
    (h63 : n + m ≤ maxLen) (hbytes : (n + m) * bytes ≤ 140737488355328) (hbase : base ≤ w.heap.size)
    (h : ∀ v' w', w'.ownsRow base e 1 v' (n + m) (xs ++ zs.map (Value.int k)) → Below base w w' → wpList P ops Q rest (a.put o.dst v') w') : wpList P ops Q (o :: rest) a w := by
  rcases A with _ | ad
  · obtain rfl : zs = [] := by
      rcases zs with _ | ⟨z, zs⟩
      · rfl
      · obtain ⟨_, e, _⟩ := hr 0 (by simp)
        cases e
    obtain rfl : m = 0 := by rw [← hl]; rfl
    obtain rfl := hnil rfl
    refine wpList_append_own_none hgd s x t ho base e i 1 ht hi v n xs hs hown hx (h v w ?_ (Below.refl _ _))
    simpa using hown
  · have hnews := hr.news m
    rw [List.take_of_length_le (by omega)] at hnews
    exact wpList_append_own _ hgd s x t ho base e i (.int k 0) 1 bytes ht hi hz hsize hby rfl (by decide) v n xs hs hown ad m c (zs.map (Value.int k)) hx (by rw [List.length_map]; omega) hnews (one_cells _ _) h63 hbytes hbase
      fun v' w' h2 h3 _ => h v' w' h2 (below_grown hbase hown h3)
end H
end Go.Proofs.YtpkhbglmbdpodaaDoor
