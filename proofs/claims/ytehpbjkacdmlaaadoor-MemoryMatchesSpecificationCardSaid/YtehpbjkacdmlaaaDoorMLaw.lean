/-
  What the laws of package memory share: a memory in new blocks through calls; made; the examples.
-/
import Derived.Test.YtehpbjkacdmlaaaDoorMProg
import Derived.Laws.StructEq
namespace Go.Proofs.YtehpbjkacdmlaaaDoor
open Go.RowKit
namespace M
open H
set_option linter.unusedVariables false
set_option maxRecDepth 100000
theorem u8_nat_of {a : Int} (h : (Lit.int .u8 a).wf = true) : ∃ n : Nat, a = n ∧ n < 256 := by
  simp [Lit.wf, IntKind.min, IntKind.max, IntKind.signed, IntKind.bits] at h
  exact ⟨a.toNat, by omega, by omega⟩
theorem u32_nat_of {a : Int} (h : (Lit.int .u32 a).wf = true) : ∃ n : Nat, a = n ∧ n < 4294967296 := by
  simp [Lit.wf, IntKind.min, IntKind.max, IntKind.signed, IntKind.bits] at h
  exact ⟨a.toNat, by omega, by omega⟩
theorem u64_nat_of {a : Int} (h : (Lit.int .u64 a).wf = true) : ∃ n : Nat, a = n ∧ n < 18446744073709551616 := by
  simp [Lit.wf, IntKind.min, IntKind.max, IntKind.signed, IntKind.bits] at h
  exact ⟨a.toNat, by omega, by omega⟩
theorem FT.old {b : Nat} {v : Value} {B : Nat} (h : ∀ k, FT b v k → B ≤ k) {k : Nat} (hk : k < B) : ¬ FT b v k := fun e => by have := h k e; omega
/-- A call that changes the memory alone. -/
theorem Made.step {w w1 w2 : World} {b : Nat} {v : Value} {m m' : Mem} (h : Made PM w w1 b v m) (h2 : PM w2 b v m') (hs : Save (FT b v) w1 w2) : Made PM w w2 b v m' :=
  ⟨h2, h.2.1, h.2.2.trans (hs.below h.2.2.size h.2.1)⟩
theorem Made.drewN {w w1 : World} {b : Nat} {v : Value} {m : Mem} (h : Made PM w w1 b v m) (n : Nat) : Made PM w (w1.drewN n) b v m := ⟨h.1.drewN n, h.2.1, below_drewN h.2.2 n⟩
theorem Made.keep {w w1 w2 : World} {b : Nat} {v : Value} {m : Mem} (h : Made PM w w1 b v m) (hb : Below w1.heap.size w1 w2) : Made PM w w2 b v m := ⟨h.1.keep hb, h.2.1, h.2.2.trans (hb.mono h.2.2.size)⟩
theorem Made.tab {w w1 : World} {b : Nat} {v : Value} {m : Mem} (h : Made PM w w1 b v m) (tb : E.Tab w) : E.Tab w1 := tb.below tb.pos h.2.2
/-- What made returns. -/
def MadePost (n : Nat) (w : World) (r : Ending) (w' : World) : Prop := ∃ b v, r = .returned (.pointer (some ⟨b, 0, none⟩)) ∧ Made PM w w' b v (Mem.new n)
theorem newPost_get {R : World → Nat → Value → Mem → Prop} {n : Nat} (h1 : 1 ≤ n) (h2 : n ≤ 4096) {w w' : World} {r : Ending} (h : NewPost R n w r w') : ∃ b v, r = .returned (.tuple #[.pointer (some ⟨b, 0, none⟩), .int .i64 0]) ∧ Made R w w' b v (Mem.new n) := by
  unfold NewPost at h
  rw [if_pos (by omega), Int.toNat_natCast] at h
  exact h
theorem newPost_not {R : World → Nat → Value → Mem → Prop} {n : Int} (h1 : n < 1 ∨ 4096 < n) {w w' : World} {r : Ending} (h : NewPost R n w r w') : r = .returned (.tuple #[.pointer none, .int .i64 5]) ∧ w' = w := by
  unfold NewPost at h
  rw [if_neg (by omega)] at h
  exact h
set_option maxHeartbeats 1000000 in
theorem made_any (n : Nat) (h1 : 1 ≤ n) (h2 : n ≤ 4096) (w : World) (tb : E.Tab w) : Calls Tryd.prog 16 #[.int .i64 (n : Nat)] w (MadePost n w) := by
  have H := Lib.hid (pnew_any (n : Nat) w tb)
  have HN := Lib.hid (And.intro h1 h2)
  clear tb h1 h2
  go_enter Tryd.func16, Tryd.ntmps16
  go_wp2_with fail
  refine H.out.mono ?_
  intro r w1 hp
  obtain ⟨b, v, rfl, hm⟩ := newPost_get HN.out.1 HN.out.2 hp
  have HM := Lib.hid hm
  clear hm hp
  go_wp2_with fail
  go_ret
  exact ⟨b, v, rfl, HM.out⟩
end M
end Go.Proofs.YtehpbjkacdmlaaaDoor
