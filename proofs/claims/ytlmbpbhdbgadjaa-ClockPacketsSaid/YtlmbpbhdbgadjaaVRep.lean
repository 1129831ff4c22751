/-
  The program's Reader, as it lies in memory; NewReader, Err, End, Fail.
-/
import Derived.Test.YtlmbpbhdbgadjaaVClone
import Derived.Test.YtlmbpbhdbgadjaaVBase
namespace Go.Proofs.Ytlmbpbhdbgadjaa
open Go.RowKit
namespace W
open H
set_option linter.unusedVariables false

/-! ### blocks known whole -/

theorem blk_cell {w : World} {b : Nat} {cs : Array Value} {T : TypeId} (h : w.heap[b]? = some (.cells cs T (0, 0))) (i : Nat) : w.cell? ⟨b, i, none⟩ = cs[i]? := by
  simp [World.cell?, h]
theorem blk_frozen {w : World} {b : Nat} {cs : Array Value} {T : TypeId} (h : w.heap[b]? = some (.cells cs T (0, 0))) (i : Nat) : w.frozen? ⟨b, i, none⟩ = false := by
  simp [World.frozen?, h]
theorem blk_set {w : World} {b : Nat} {cs : Array Value} {T : TypeId} (h : w.heap[b]? = some (.cells cs T (0, 0))) (i : Nat) (v : Value) : (w.setCell ⟨b, i, none⟩ v).heap[b]? = some (.cells (cs.setIfInBounds i v) T (0, 0)) := by
  simp [World.setCell, Array.getElem?_modify, h]
theorem blk_lt {w : World} {b : Nat} {o : Obj} (h : w.heap[b]? = some o) : b < w.heap.size := (Array.getElem?_eq_some_iff.1 h).1

theorem Save.trans {F : Nat → Prop} {a b c : World} (h : Save F a b) (k : Save F b c) : Save F a c :=
  ⟨k.os.trans h.os, k.tape.trans h.tape, k.output.trans h.output, Nat.le_trans h.size k.size, fun i hi hf => (k.block i (Nat.lt_of_lt_of_le hi h.size) hf).trans (h.block i hi hf)⟩
theorem Save.more {F G : Nat → Prop} {a b : World} (h : Save F a b) (hG : ∀ k, F k → G k) : Save G a b :=
  ⟨h.os, h.tape, h.output, h.size, fun i hi hf => h.block i hi fun hk => hf (hG i hk)⟩
/-- Writes that lie in new blocks do not count. -/
theorem Save.trim {F G : Nat → Prop} {w a b : World} (h : Save F w a) (k : Save G a b) (hG : ∀ j, G j → F j ∨ w.heap.size ≤ j) : Save F w b :=
  ⟨k.os.trans h.os, k.tape.trans h.tape, k.output.trans h.output, Nat.le_trans h.size k.size, fun i hi hf => (k.block i (Nat.lt_of_lt_of_le hi h.size) fun hg => by
    rcases hG i hg with h' | h'
    · exact hf h'
    · omega).trans (h.block i hi hf)⟩
theorem Save.drewN {F : Nat → Prop} {a w : World} (h : Save F a w) (n : Nat) : Save F a (w.drewN n) := ⟨h.os, h.tape, h.output, h.size, h.block⟩
theorem Save.setCell {F : Nat → Prop} {a w : World} (h : Save F a w) {p : Addr} (hp : F p.block) (u : Value) : Save F a (w.setCell p u) :=
  h.trans ⟨rfl, rfl, rfl, by simp, fun k _ hk => Below.heap_setCell _ _ _ _ fun e => hk (by rw [e]; exact hp)⟩
theorem Save.then {F : Nat → Prop} {w a b : World} (h : Save F w a) (hb : Below a.heap.size a b) : Save F w b :=
  h.trans ⟨hb.os, hb.tape, hb.output, hb.size, fun k hk _ => hb.block k hk⟩
theorem Save.alloc {F : Nat → Prop} {w a : World} (h : Save F w a) (o : Obj) : Save F w (a.alloc o) := h.then ((Below.refl _ _).alloc (Nat.le_refl _) _)
theorem Save.rdi {F : Nat → Prop} {w w' : World} {B : Nat} {k : IntKind} {A : Option Addr} {zs : List Int} (hs : Save F w w') (h : RdI w B k A zs) (hB : B ≤ w.heap.size) (hG : ∀ a, A = some a → ¬ F a.block) : RdI w' B k A zs := fun j hj => by
  obtain ⟨ad, e, hb, hc⟩ := h j hj
  exact ⟨ad, e, hb, (World.cell?_of_block (w := w) (hs.block _ (by rw [add_block]; omega) (by rw [add_block]; exact hG ad e))).trans hc⟩

/-- At block b there is a Reader with the bytes bs, the offset k and the error e. -/
structure RAt (w : World) (b : Nat) (A : Option Addr) (n c : Nat) (bs : List Int) (k : Nat) (e : Int) : Prop where
  blk : w.heap[b]? = some (.cells #[.slice A n c, .int .i64 k, .int .i64 e] 79 (0, 0))
  len : bs.length = n
  cap : n ≤ c
  capm : c ≤ maxLen
  nil : A = none → c = 0
  small : n ≤ 140737488351232
  byt : Byt bs
  pos : k ≤ n
  rd : RdI w w.heap.size .u8 A bs
  other : ∀ a, A = some a → a.block ≠ b
  inb : ∀ a, A = some a → a.block < w.heap.size

theorem RAt.keep {w w' : World} {b : Nat} {A : Option Addr} {n c : Nat} {bs : List Int} {k : Nat} {e : Int} (h : RAt w b A n c bs k e) (hs : w.heap.size ≤ w'.heap.size) (hb : w'.heap[b]? = w.heap[b]?) (hA : ∀ a, A = some a → w'.heap[a.block]? = w.heap[a.block]?) : RAt w' b A n c bs k e :=
  ⟨hb.trans h.blk, h.len, h.cap, h.capm, h.nil, h.small, h.byt, h.pos, fun j hj => by
    obtain ⟨ad, e, hlt, hc⟩ := h.rd j hj
    exact ⟨ad, e, by omega, (World.cell?_of_block (w := w) (by rw [add_block]; exact hA ad e)).trans hc⟩, h.other, fun a ha => Nat.lt_of_lt_of_le (h.inb a ha) hs⟩
/-- The same Reader in a world in which its block alone has changed, to another offset and error. -/
theorem RAt.upd {w w' : World} {b : Nat} {A : Option Addr} {n c : Nat} {bs : List Int} {k k' : Nat} {e e' : Int} (h : RAt w b A n c bs k e) (hs : Save (· = b) w w') (hb : w'.heap[b]? = some (.cells #[.slice A n c, .int .i64 k', .int .i64 e'] 79 (0, 0))) (hk : k' ≤ n) : RAt w' b A n c bs k' e' :=
  ⟨hb, h.len, h.cap, h.capm, h.nil, h.small, h.byt, hk, (hs.rdi h.rd (Nat.le_refl _) fun a ha => h.other a ha).more hs.size, h.other, fun a ha => Nat.lt_of_lt_of_le (h.inb a ha) hs.size⟩

set_option maxRecDepth 100000 in
set_option maxHeartbeats 1000000 in
theorem new_any (A : Option Addr) (n c : Nat) (bs : List Int) (w : World) (hl : bs.length = n) (hn : n ≤ 140737488351232) (hnil : A = none → c = 0) (hb : Byt bs) (hr : RdI w w.heap.size .u8 A bs) :
    Calls Try.prog 40 #[.slice A n c] w fun r w' => ∃ b A' c', r = .returned (.pointer (some ⟨b, 0, none⟩)) ∧ RAt w' b A' n c' bs 0 0 ∧ w.heap.size ≤ b ∧ (∀ a, A' = some a → w.heap.size ≤ a.block) ∧ Below w.heap.size w w' := by
  have hcl := clone_any A n c bs w hl hn hnil hr
  have HL := Lib.hid hl
  have HB := Lib.hid hb
  clear hl hr hnil hb
  go_enter Try.func40, Try.ntmps40
  go_wp2_with fail
  refine hcl.mono ?_
  clear hcl
  rintro e w1 ⟨v, rfl, hown, hB⟩
  obtain ⟨A', c', rfl⟩ := own_shape hown
  have HO := Lib.hid hown
  clear hown
  go_wp2_with fail
  go_ret
  have hown := HO.out
  have h2 : Below w1.heap.size w1 (w1.alloc (.cells #[.slice A' bs.length c', .int .i64 0, .int .i64 0] 79)) := (Below.refl _ _).alloc (Nat.le_refl _) _
  refine ⟨w1.heap.size, A', c', rfl, ?_, hB.size, own_high hown, hB.trans (h2.mono hB.size)⟩
  have hcc : bs.length ≤ c' ∧ c' ≤ maxLen ∧ (A' = none → c' = 0) := by
    rcases hown.2 with ⟨hv, hz⟩ | ⟨g, cap, cur, hv, _, _, h1, h2, _⟩
    · injection hv with e1 e2 e3; subst e3; exact ⟨by omega, by decide, fun _ => rfl⟩
    · injection hv with e1 e2 e3; subst e3; exact ⟨h1, h2, fun h => by rw [h] at e1; cases e1⟩
  have hlt : ∀ a, A' = some a → a.block < w1.heap.size := fun a ha => by
    rcases hown.2 with ⟨hv, hz⟩ | ⟨g, cap, cur, hv, _, hh, _⟩
    · injection hv with e1; rw [ha] at e1; cases e1
    · injection hv with e1; rw [ha] at e1; injection e1 with e1; rw [e1]; exact blk_lt hh
  refine ⟨by rw [← HL.out]; exact heap_alloc_new w1 _, HL.out, by rw [← HL.out]; exact hcc.1, hcc.2.1, hcc.2.2, hn, HB.out, Nat.zero_le _, ((own_RdI hown).below h2).more h2.size, fun a ha e => ?_, fun a ha => Nat.lt_of_lt_of_le (hlt a ha) h2.size⟩
  have := hlt a ha
  omega

end W
end Go.Proofs.Ytlmbpbhdbgadjaa
