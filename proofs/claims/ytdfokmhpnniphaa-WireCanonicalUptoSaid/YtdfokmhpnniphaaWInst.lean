/-
  The program's Reader is a Reader as the laws ask it.
-/
import Derived.Test.YtdfokmhpnniphaaWRK
namespace Go.Proofs.Ytdfokmhpnniphaa
open Go.RowKit
namespace W
open H
set_option linter.unusedVariables false

/-- In w there is a Reader at p in state s, whose blocks are those of F. -/
def Rep (w : World) (p : Addr) (F : Nat → Prop) (s : St) : Prop :=
  ∃ b A n c bs k e, p = ⟨b, 0, none⟩ ∧ RAt w b A n c bs k e ∧ StOf bs k e s ∧ ∀ j, F j ↔ (j = b ∨ ∃ a, A = some a ∧ a.block = j)

theorem Rep.foot {w : World} {p : Addr} {F : Nat → Prop} {s : St} (h : Rep w p F s) : ∀ k, F k → k < w.heap.size := by
  obtain ⟨b, A, n, c, bs, k, e, rfl, hR, hS, hF⟩ := h
  intro j hj
  rcases (hF j).1 hj with rfl | ⟨a, ha, rfl⟩
  · exact blk_lt hR.blk
  · exact hR.inb a ha
theorem own_cap {w : World} {base n : Nat} {e : TypeId} {A : Option Addr} {c m : Nat} {xs : List Value} (h : w.ownsRow base e 1 (.slice A m c) n xs) : m = n ∧ n ≤ c ∧ c ≤ maxLen ∧ (A = none → c = 0) ∧ (∀ a, A = some a → base ≤ a.block ∧ a.block < w.heap.size) := by
  rcases h.2 with ⟨hv, hz⟩ | ⟨g, cap, cur, hv, hg, hh, h1, h2, _⟩
  · injection hv with e1 e2 e3; subst e1 e2 e3 hz; exact ⟨rfl, Nat.le_refl _, by decide, fun _ => rfl, fun a ha => by cases ha⟩
  · injection hv with e1 e2 e3; subst e1 e2 e3; exact ⟨rfl, h1, h2, (fun h => by cases h), fun a ha => by injection ha with ha; subst ha; exact ⟨hg, blk_lt hh⟩⟩

def theRdr : RdrIf where
  rep := Rep
  foot := Rep.foot
  keep := by
    rintro w w' p F s h hk
    have hf := Rep.foot h
    obtain ⟨b, A, n, c, bs, k, e, rfl, hR, hS, hF⟩ := h
    have hb : w'.heap[b]? = w.heap[b]? := hk b ((hF b).2 (.inl rfl))
    have hA : ∀ a, A = some a → w'.heap[a.block]? = w.heap[a.block]? := fun a ha => hk _ ((hF _).2 (.inr ⟨a, ha, rfl⟩))
    refine ⟨b, A, n, c, bs, k, e, rfl, ⟨hb.trans hR.blk, hR.len, hR.cap, hR.capm, hR.nil, hR.small, hR.byt, hR.pos, fun j hj => ?_, hR.other, fun a ha => ?_⟩, hS, hF⟩
    · obtain ⟨ad, e1, hlt, hc⟩ := hR.rd j hj
      have hc' : w'.cell? (ad.add j) = some (.int .u8 (bs[j]?.getD 0)) := (World.cell?_of_block (w := w) (by rw [add_block]; exact hA ad e1)).trans hc
      have := cell_lt hc'
      rw [add_block] at this
      exact ⟨ad, e1, this, hc'⟩
    · have h1 := hR.inb a ha
      have h2 := hA a ha
      rcases Nat.lt_or_ge a.block w'.heap.size with h3 | h3
      · exact h3
      · rw [Array.getElem?_eq_none h3, Array.getElem?_eq_getElem h1] at h2; cases h2
  new := fun A n c bs w hl hc hcm hz hn hb hr => (new_any A n c bs w hl hn hz hb hr).mono fun r w' ⟨b, A', c', e, hR, hbb, hA, hB⟩ =>
    ⟨⟨b, 0, none⟩, fun j => j = b ∨ ∃ a, A' = some a ∧ a.block = j, e, ⟨b, A', n, c', bs, 0, 0, rfl, hR, ⟨rfl, fun _ => rfl⟩, fun _ => Iff.rfl⟩, (fun k hk => hk.elim (fun h => h ▸ hbb) (fun ⟨a, ha, h⟩ => h ▸ hA a ha)), hB⟩
  uint := by
    rintro w p F s ⟨b, A, n, c, bs, k, e, rfl, hR, hS, hF⟩
    exact (uint_rd hR hS).mono fun r w' ⟨er, k', e', hR', hS', hV⟩ => ⟨F, er, ⟨b, A, n, c, bs, k', e', rfl, hR', hS', hF⟩, fun _ h => .inl h, hV.more fun j hj => (hF j).2 (.inl hj)⟩
  int := by
    rintro w p F s ⟨b, A, n, c, bs, k, e, rfl, hR, hS, hF⟩
    exact (int_rd hR hS).mono fun r w' ⟨er, k', e', hR', hS', hV⟩ => ⟨F, er, ⟨b, A, n, c, bs, k', e', rfl, hR', hS', hF⟩, fun _ h => .inl h, hV.more fun j hj => (hF j).2 (.inl hj)⟩
  bytes := by
    rintro w p F s m hm h
    have hf := Rep.foot h
    obtain ⟨b, A, n, c, bs, k, e, rfl, hR, hS, hF⟩ := h
    exact (bytes_rd m hm hR hS).mono fun r w' ⟨v, er, ho, k', e', hR', hS', hV⟩ => by
      obtain ⟨Av, cv, rfl⟩ := own_shape ho
      obtain ⟨_, h1, h2, h3, h4⟩ := own_cap ho
      exact ⟨F, Av, cv, er, ⟨b, A, n, c, bs, k', e', rfl, hR', hS', hF⟩, fun _ h => .inl h, hV.more fun j hj => (hF j).2 (.inl hj), own_RdI ho, h1, h2, h3, fun a ha => ⟨(h4 a ha).1, fun hfa => by have := hf _ hfa; have := (h4 a ha).1; omega⟩⟩
  ints := by
    rintro w p F s m hm h hsz
    have hf := Rep.foot h
    obtain ⟨b, A, n, c, bs, k, e, rfl, hR, hS, hF⟩ := h
    exact (ints_rd m hm (fun _ => hsz) hR hS).mono fun r w' ⟨v, er, ho, k', e', hR', hS', hV⟩ => by
      obtain ⟨Av, cv, rfl⟩ := own_shape ho
      obtain ⟨_, h1, h2, h3, h4⟩ := own_cap ho
      exact ⟨F, Av, cv, er, ⟨b, A, n, c, bs, k', e', rfl, hR', hS', hF⟩, fun _ h => .inl h, hV.more fun j hj => (hF j).2 (.inl hj), own_RdI ho, h1, h2, h3, fun a ha => ⟨(h4 a ha).1, fun hfa => by have := hf _ hfa; have := (h4 a ha).1; omega⟩⟩
  err := by
    rintro w p F s ⟨b, A, n, c, bs, k, e, rfl, hR, hS, hF⟩
    refine (err_any hR).mono fun r w' ⟨er, ew⟩ => ⟨by rw [er, hS.1], by rw [ew]; exact Below.refl _ _⟩
  fin := by
    rintro w p F s ⟨b, A, n, c, bs, k, e, rfl, hR, hS, hF⟩
    refine (end_rd hR hS).mono fun r w' ⟨er, m, ew⟩ => ⟨er, by rw [ew]; exact below_drewN (Below.refl _ _) _⟩

end W
end Go.Proofs.Ytdfokmhpnniphaa
