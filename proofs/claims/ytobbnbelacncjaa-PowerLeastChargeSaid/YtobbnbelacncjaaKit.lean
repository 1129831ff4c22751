/-
  Small lemmas on memory that the texts of every package share; nothing here speaks of one program.
-/
import Derived.WalkKit
import Derived.WalkSpells
import Derived.WalkLawsBesides
import Derived.Outline
import Derived.Lib.Hide
import Derived.RangeFuncOwn
import Derived.OpenShut
import Derived.ProofKit
namespace Go.Proofs.Ytobbnbelacncjaa
open Go.RowKit
namespace H

theorem ret_int {k : IntKind} {a b : Int} (h : a = b) : Ending.returned (.int k a) = .returned (.int k b) := by rw [h]
/-- The slice at A holds the integers zs of kind k, in a block below B. -/
def RdI (w : World) (B : Nat) (k : IntKind) (A : Option Addr) (zs : List Int) : Prop :=
  ∀ j, j < zs.length → ∃ ad, A = some ad ∧ ad.block < B ∧ w.cell? (ad.add j) = some (.int k (zs[j]?.getD 0))
theorem add_block (a : Addr) (n : Nat) : (a.add n).block = a.block := by unfold Addr.add; split <;> rfl
theorem RdI.keep {w w' : World} {B : Nat} {k : IntKind} {A : Option Addr} {zs : List Int} (h : RdI w B k A zs) (hk : ∀ p : Addr, p.block < B → w'.cell? p = w.cell? p) : RdI w' B k A zs :=
  fun j hj => by
    obtain ⟨ad, e, hb, hc⟩ := h j hj
    exact ⟨ad, e, hb, (hk _ (by rw [add_block]; exact hb)).trans hc⟩
theorem RdI.below {w w' : World} {B : Nat} {k : IntKind} {A : Option Addr} {zs : List Int} (h : RdI w B k A zs) (hb : Below B w w') : RdI w' B k A zs := h.keep fun _ hp => hb.cell hp
theorem RdI.more {w : World} {B B' : Nat} {k : IntKind} {A : Option Addr} {zs : List Int} (h : RdI w B k A zs) (hB : B ≤ B') : RdI w B' k A zs :=
  fun j hj => by
    obtain ⟨ad, e, hb, hc⟩ := h j hj
    exact ⟨ad, e, by omega, hc⟩
theorem RdI.nil {w : World} {B : Nat} {k : IntKind} {A : Option Addr} : RdI w B k A [] := fun j hj => by simp at hj
theorem own_keeps {W w1 : World} {base k : Nat} {e : TypeId} {v : Value} {xs : List Value} {tmp : Obj} (hrow : W.ownsRow base e 1 v k xs) (hgrow : (W.alloc tmp).grownBy w1 v.ownBlock) : KeepsOthers W w1 := by
  refine (KeepsOthers.alloc W tmp).trans (KeepsOthers.of_grownBy hgrow fun j o ej hj => ?_)
  rcases (hrow.alloc tmp).2 with ⟨rfl, _⟩ | ⟨g, cap, cur, rfl, _, hgb, _⟩
  · simp [Value.ownBlock] at ej
  · obtain rfl : g = j := by simpa [Value.ownBlock] using ej
    rw [hgb] at hj; cases hj; rfl
theorem own_below {W w1 : World} {base k : Nat} {e : TypeId} {v : Value} {xs : List Value} {tmp : Obj} (hb : base ≤ W.heap.size) (hrow : W.ownsRow base e 1 v k xs) (hgrow : (W.alloc tmp).grownBy w1 v.ownBlock) : Below base W w1 := by
  refine ((Below.refl base W).alloc hb tmp).grown hgrow (by simp; omega) fun j ej => ?_
  rcases hrow.2 with ⟨rfl, _⟩ | ⟨g, cap, cur, rfl, hb, _, _⟩
  · simp [Value.ownBlock] at ej
  · obtain rfl : g = j := by simpa [Value.ownBlock] using ej
    exact hb
theorem own_RdI {w : World} {base n c : Nat} {e : TypeId} {k : IntKind} {A : Option Addr} {zs : List Int} (h : w.ownsRow base e 1 (.slice A n c) n (zs.map (Value.int k))) : RdI w w.heap.size k A zs := by
  intro j hj
  rcases h.2 with ⟨hv, hn⟩ | ⟨g, cap, cur, hv, hb, hg, _⟩
  · have := h.1
    simp at this
    omega
  · injection hv with hA
    subst hA
    have hlt := (Array.getElem?_eq_some_iff.1 hg).1
    exact ⟨_, rfl, hlt, (h.cells rfl) j _ (by simp [hj])⟩
theorem own_shape {w : World} {base n : Nat} {e : TypeId} {v : Value} {xs : List Value} (h : w.ownsRow base e 1 v n xs) : ∃ A c, v = .slice A n c := by
  rcases h.2 with ⟨rfl, rfl⟩ | ⟨g, cap, _, rfl, _⟩
  · exact ⟨_, _, rfl⟩
  · exact ⟨_, _, rfl⟩
theorem own_kept_below {w w' : World} {base n : Nat} {e : TypeId} {v : Value} {xs : List Value} (h : w.ownsRow base e 1 v n xs) (hb : Below w.heap.size w w') : w'.ownsRow base e 1 v n xs := by
  refine ⟨h.1, ?_⟩
  rcases h.2 with h2 | ⟨g, cap, cur, hv, hg, hh, hr⟩
  · exact .inl h2
  · exact .inr ⟨g, cap, cur, hv, hg, (hb.block g (Array.getElem?_eq_some_iff.1 hh).1).trans hh, hr⟩
theorem own_ne {w : World} {b b' n n' : Nat} {e e' : TypeId} {v v' : Value} {xs xs' : List Value} (h : w.ownsRow b e 1 v n xs) (h' : w.ownsRow b' e' 1 v' n' xs') (hne : e ≠ e') : v.ownBlock = none ∨ v.ownBlock ≠ v'.ownBlock := by
  rcases h.2 with ⟨rfl, _⟩ | ⟨g, cap, cur, rfl, _, hh, _⟩
  · exact .inl rfl
  · rcases h'.2 with ⟨rfl, _⟩ | ⟨g', cap', cur', rfl, _, hh', _⟩
    · exact .inr (by simp [Value.ownBlock])
    · refine .inr fun e' => ?_
      obtain rfl : g = g' := by simpa [Value.ownBlock] using e'
      rw [hh] at hh'
      injection hh' with hh'
      injection hh' with _ ht
      exact hne ht
theorem own_step {w w1 : World} {b b' n n' : Nat} {e e' : TypeId} {v v' : Value} {xs xs' : List Value} {tmp : Obj} (h : w.ownsRow b e 1 v n xs) (h' : w.ownsRow b' e' 1 v' n' xs') (hne : e ≠ e') (hg : (w.alloc tmp).grownBy w1 v'.ownBlock) : w1.ownsRow b e 1 v n xs :=
  (h.alloc tmp).kept hg (own_ne h h' hne)
theorem RdI_lit (w : World) (k : IntKind) (e : TypeId) (cs : Array Value) (zs : List Int) (h : cs.toList = zs.map (Value.int k)) : RdI (w.alloc (.cells cs e)) (w.alloc (.cells cs e)).heap.size k (some ⟨w.heap.size, 0, none⟩) zs := by
  intro j hj
  refine ⟨_, rfl, by simp, ?_⟩
  have h4 : (⟨w.heap.size, 0, none⟩ : Addr).add j = ⟨w.heap.size, j, none⟩ := by unfold Addr.add; split <;> simp_all
  have h1 : ((w.alloc (.cells cs e)).heap[w.heap.size]?) = some (.cells cs e (0, 0)) := heap_alloc_new w _
  rw [h4]
  unfold World.cell?
  rw [h1]
  show cs[j]? = _
  rw [← Array.getElem?_toList, h]
  simp [hj]
theorem cell_lt {w : World} {a : Addr} {v : Value} (h : w.cell? a = some v) : a.block < w.heap.size := by
  rcases Nat.lt_or_ge a.block w.heap.size with hlt | hge
  · exact hlt
  · unfold World.cell? at h
    rw [Array.getElem?_eq_none hge] at h
    cases h
theorem wpList_unguard {P : Program} {ops : Array Oper} {Q : Exit → Act → World → Prop} {rest : List Oper} {o : Oper} {a : Act} {w : World} (hw : Region.wanted o (yielded ops a.tmps) = true) (h : wpList P ops Q ({ o with guard := none } :: rest) a w) : wpList P ops Q (o :: rest) a w := by
  have e : Region.wanted { o with guard := none } (yielded ops a.tmps) = true := rfl
  unfold wpList at h ⊢
  rw [if_pos hw]
  rw [if_pos e] at h
  exact h
theorem own_form {w : World} {base n : Nat} {e : TypeId} {v : Value} {xs : List Value} (h : w.ownsRow base e 1 v n xs) (hn : 0 < n) : ∃ g cap, v = .slice (some ⟨g, 0, none⟩) n cap ∧ base ≤ g ∧ g < w.heap.size := by
  rcases h.2 with ⟨_, h0⟩ | ⟨g, cap, _, rfl, hb, hh, _⟩
  · omega
  · exact ⟨g, cap, rfl, hb, (Array.getElem?_eq_some_iff.1 hh).1⟩
theorem RdI.news {w : World} {B : Nat} {k : IntKind} {ad : Addr} {zs : List Int} (h : RdI w B k (some ad) zs) (m : Nat) : ∀ j u, ((zs.take m).map (Value.int k))[j]? = some u → w.cell? (ad.add j) = some u := by
  intro j u hu
  rw [List.getElem?_map, List.getElem?_take] at hu
  split at hu
  · rcases hz : zs[j]? with _ | z
    · rw [hz] at hu; cases hu
    · obtain ⟨ad', e, _, hc⟩ := h j (List.getElem?_eq_some_iff.1 hz).1
      cases e
      rw [hc, hz]
      rw [hz] at hu
      exact hu
  · cases hu
theorem one_cells (k : IntKind) (zs : List Int) : ∀ u ∈ zs.map (Value.int k), u.oneCell' = true := by
  intro u hu
  obtain ⟨z, _, rfl⟩ := List.mem_map.1 hu
  simp [Value.oneCell']
theorem i64_range {a : Int} (h : (Lit.int .i64 a).wf = true) : -9223372036854775808 ≤ a ∧ a ≤ 9223372036854775807 := by
  simp [Lit.wf, IntKind.min, IntKind.max, IntKind.signed, IntKind.bits] at h
  omega

theorem u64_range {a : Int} (h : (Lit.int .u64 a).wf = true) : 0 ≤ a ∧ a < 18446744073709551616 := by
  simp [Lit.wf, IntKind.min, IntKind.max, IntKind.signed, IntKind.bits] at h
  omega
theorem u8_range {a : Int} (h : (Lit.int .u8 a).wf = true) : 0 ≤ a ∧ a < 256 := by
  simp [Lit.wf, IntKind.min, IntKind.max, IntKind.signed, IntKind.bits] at h
  omega
/-- A list of bytes. -/
def Byt (bs : List Int) : Prop := ∀ b ∈ bs, 0 ≤ b ∧ b < 256
theorem u8_byt {zs : List Int} (h : ∀ n ∈ zs, (Lit.int .u8 n).wf = true) : Byt zs := fun b hb => u8_range (h b hb)

end H
end Go.Proofs.Ytobbnbelacncjaa
