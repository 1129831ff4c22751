/-
  Three numbers that are written with package wire, and read back.
-/
import Derived.Test.YtlmbpbhdbgadjaaKKp3
import Derived.Test.YtlmbpbhdbgadjaaVWr
namespace Go.Proofs.Ytlmbpbhdbgadjaa
open Go.RowKit
namespace K
open H
set_option linter.unusedVariables false
theorem rdI_lit2 (X : World) (o : Obj) (T : TypeId) (a b c : Int) : RdI ((X.alloc o).alloc (.cells #[.int .i64 a, .int .i64 b, .int .i64 c] T)) ((X.alloc o).alloc (.cells #[.int .i64 a, .int .i64 b, .int .i64 c] T)).heap.size .i64 (some ⟨X.heap.size + 1, 0, none⟩) [a, b, c] := by
  have h := RdI_lit (X.alloc o) .i64 T #[.int .i64 a, .int .i64 b, .int .i64 c] [a, b, c] rfl
  rwa [show (X.alloc o).heap.size = X.heap.size + 1 by simp] at h
theorem pk_ints (X : World) (T : TypeId) (a b c : Int) (ha : I64 a) (hb : I64 b) (hc : I64 c) :
    Calls Try.prog 39 #[.pointer (some ⟨X.heap.size, 0, none⟩), .slice (some ⟨X.heap.size + 1, 0, none⟩) 3 3] ((X.alloc (.cells #[.slice none 0 0] 59)).alloc (.cells #[.int .i64 a, .int .i64 b, .int .i64 c] T))
      fun r w' => r = .returned (.tuple #[]) ∧ ∃ v', W.WAt w' X.heap.size v' (W.encU 3 ++ W.encL [a, b, c]) ∧ Below X.heap.size X w' := by
  have hw0 : W.WAt (X.alloc (.cells #[.slice none 0 0] 59)) X.heap.size (.slice none 0 0) [] := ⟨heap_top X _, World.ownsRow_nil _ _ _ _⟩
  have hw1 := hw0.keep ((Below.refl _ _).alloc (Nat.le_refl _) (.cells #[.int .i64 a, .int .i64 b, .int .i64 c] T))
  refine (W.ints_wr (some ⟨X.heap.size + 1, 0, none⟩) 3 3 [a, b, c] hw1 rfl (by simp) (fun z hz => ?_) (rdI_lit2 X _ T a b c) (fun ad had _ hF => ?_)).mono ?_
  · simp only [List.mem_cons, List.not_mem_nil, or_false] at hz
    rcases hz with rfl | rfl | rfl <;> assumption
  · obtain rfl := Option.some.inj had
    rcases hF with h | h
    · have : X.heap.size + 1 = X.heap.size := h; omega
    · simp [Value.ownBlock] at h
  · rintro r w' ⟨rfl, v', hv, hs⟩
    refine ⟨rfl, v', by simpa using hv, ?_⟩
    have h1 := hs.below (B := X.heap.size) (by simp; omega) (Nat.le_refl _) (fun k hk => by simp [Value.ownBlock] at hk)
    exact (((Below.refl _ X).alloc (Nat.le_refl _) _).alloc (by simp) _).trans h1
theorem pk_done {w : World} {b : Nat} {v : Value} {bs : List Int} (h : W.WAt w b v bs) (hsz : bs.length ≤ 1000) :
    Calls Try.prog 41 #[.pointer (some ⟨b, 0, none⟩)] w fun r w' => ∃ A c, r = .returned (.slice A bs.length c) ∧ (A = none → c = 0) ∧ RdI w' w'.heap.size .u8 A bs ∧ Below w.heap.size w w' :=
  (W.done_wr h (by omega)).mono (by
    rintro r w' ⟨v', rfl, ho, hB⟩
    obtain ⟨A, c, rfl⟩ := own_shape ho
    obtain ⟨_, h1, h2, h3, h4⟩ := W.own_cap ho
    exact ⟨A, c, rfl, h3, own_RdI ho, hB⟩)
theorem encL_byt (zs : List Int) : Byt (W.encL zs) := fun x hx => by
  unfold W.encL at hx
  obtain ⟨z, _, hz⟩ := List.mem_flatMap.1 hx
  exact W.encU_byt _ x hz
theorem pk_byt (zs : List Int) : Byt (W.encU 3 ++ W.encL zs) := fun x hx => by
  rcases List.mem_append.1 hx with h | h
  · exact W.encU_byt _ x h
  · exact encL_byt zs x h
theorem pk_rL {a b c : Int} (ha : I64 a) (hb : I64 b) (hc : I64 c) : W.rL (W.encU 3 ++ W.encL [a, b, c], 0) 3 = (([], 0), [a, b, c]) := by
  have hr : ∀ z ∈ [a, b, c], -9223372036854775808 ≤ z ∧ z ≤ 9223372036854775807 := fun z hz => by
    simp only [List.mem_cons, List.not_mem_nil, or_false] at hz
    rcases hz with rfl | rfl | rfl <;> assumption
  have h1 := W.rS_enc (n := 3) (by decide) (W.encL [a, b, c]) (m := 3) (by decide)
  have h2 := W.rN_enc [a, b, c] [] hr
  rw [List.append_nil] at h2
  unfold W.rL
  rw [h1]
  show (if (W.rN (W.encL [a, b, c], 0) 3).1.2 ≠ 0 then _ else _) = _
  rw [show (3 : Nat) = [a, b, c].length from rfl, h2]
  rfl
theorem pk_len {a b c : Int} (ha : I64 a) (hb : I64 b) (hc : I64 c) : (W.encU 3 ++ W.encL [a, b, c]).length ≤ 40 := by
  have h1 := W.encU_len 9 (n := 3) (by decide)
  have h2 := W.encL_len [a, b, c] (fun z hz => by
    simp only [List.mem_cons, List.not_mem_nil, or_false] at hz
    rcases hz with rfl | rfl | rfl <;> assumption)
  simp only [List.length_append, List.length_cons, List.length_nil] at *
  omega
theorem pk_read {w : World} {b n cp : Nat} {A : Option Addr} {bs zs : List Int} (h : W.RAt w b A n cp bs 0 0) (hlen : bs.length ≤ 1000) (hz : W.rL (bs, 0) 3 = (([], 0), zs)) (hl3 : zs.length = 3) :
    Calls Try.prog 42 #[.pointer (some ⟨b, 0, none⟩), .int .i64 3] w fun r w' => ∃ A' c', r = .returned (.slice A' 3 c') ∧ RdI w' w'.heap.size .i64 A' zs ∧ (∃ k', W.RAt w' b A n cp bs k' 0 ∧ W.StOf bs k' 0 ([], 0)) ∧ W.Save (· = b) w w' := by
  have hst : W.StOf bs 0 0 (bs, 0) := ⟨rfl, fun _ => by simp⟩
  refine (W.ints_rd (s := (bs, 0)) 3 (by omega) (fun _ => by show bs.length ≤ _; omega) h hst).mono ?_
  rintro r w' ⟨v, rfl, ho, k', e', hR, hS, hsv⟩
  rw [hz] at ho hS
  obtain ⟨A', c', rfl⟩ := own_shape ho
  have he : e' = 0 := hS.1.symm
  subst he
  exact ⟨A', c', by rw [hl3], own_RdI ho, ⟨k', hR, hS⟩, hsv⟩
theorem pk_end {w : World} {b n cp k : Nat} {A : Option Addr} {bs : List Int} (h : W.RAt w b A n cp bs k 0) (hs : W.StOf bs k 0 ([], 0)) :
    Calls Try.prog 43 #[.pointer (some ⟨b, 0, none⟩)] w fun r w' => r = .returned (.int .i64 0) ∧ Below w.heap.size w w' :=
  (W.end_rd h hs).mono (by
    rintro r w' ⟨rfl, m, rfl⟩
    exact ⟨rfl, below_drewN (Below.refl _ _) _⟩)
theorem save_below {w w' : World} {b B : Nat} (hs : W.Save (· = b) w w') (hB : B ≤ w.heap.size) (hb : B ≤ b) : Below B w w' :=
  ⟨hs.os, hs.tape, hs.output, hs.size, fun j hj => hs.block j (by omega) (by omega)⟩
/-- The cells below Z are kept. -/
theorem Kp.belowZ {w W V : World} {Z : Nat} {L : CL} (h : Kp w Z L W) (hB : Below Z W V) : Kp w Z L V :=
  ⟨fun t ht => (hB.cell (p := ⟨t.1, t.2.1, none⟩) (h.low t ht)).trans (h.cells t ht), h.low, h.le, Nat.le_trans h.lt hB.size, h.bel.trans (hB.mono h.le)⟩
theorem row_cells3 {W : World} {b : Nat} {x y z : Value} {t : TypeId} (h : W.heap[b]? = some (Obj.cells #[x, y, z] t)) : W.cell? ⟨b, 0, none⟩ = some x ∧ W.cell? ⟨b, 1, none⟩ = some y ∧ W.cell? ⟨b, 2, none⟩ = some z ∧ W.frozen? ⟨b, 0, none⟩ = false ∧ W.frozen? ⟨b, 1, none⟩ = false ∧ W.frozen? ⟨b, 2, none⟩ = false := by
  simp [World.cell?, World.frozen?, h]
theorem set1_same {W : World} {b : Nat} {x v : Value} (h : W.cell? ⟨b, 1, none⟩ = some x) : (W.setCell ⟨b, 1, none⟩ v).cell? ⟨b, 1, none⟩ = some v := World.cell?_setCell_same _ _ _ h
theorem set1_other {W : World} {b o : Nat} {x v : Value} (ho : o ≠ 1) (h : W.cell? ⟨b, o, none⟩ = some x) : (W.setCell ⟨b, 1, none⟩ v).cell? ⟨b, o, none⟩ = some x := by
  rw [World.cell?_setCell_other _ _ _ _ (by intro e; injection e with _ e2; omega)]; exact h
theorem Kp.add3 {w W : World} {Z b : Nat} {L : CL} {x y z : Int} (h : Kp w Z L W) (c0 : W.cell? ⟨b, 0, none⟩ = some (.int .i64 x)) (c1 : W.cell? ⟨b, 1, none⟩ = some (.int .i64 y)) (c2 : W.cell? ⟨b, 2, none⟩ = some (.int .i64 z)) : Kp w W.heap.size ((b, 0, x) :: (b, 1, y) :: (b, 2, z) :: L) W := by
  have h2 := h.up
  have hlt := World.block_lt_of_cell? _ _ c0
  refine ⟨fun t ht => ?_, fun t ht => ?_, h2.le, Nat.le_refl _, h2.bel⟩
  · rcases List.mem_cons.1 ht with rfl | ht
    · exact c0
    · rcases List.mem_cons.1 ht with rfl | ht
      · exact c1
      · rcases List.mem_cons.1 ht with rfl | ht
        · exact c2
        · exact h2.cells t ht
  · rcases List.mem_cons.1 ht with rfl | ht
    · exact hlt
    · rcases List.mem_cons.1 ht with rfl | ht
      · exact hlt
      · rcases List.mem_cons.1 ht with rfl | ht
        · exact hlt
        · exact h2.low t ht
theorem cell_under_drew {W : World} {a : Addr} {v : Value} (o : Obj) (h : W.cell? a = some v) : (W.alloc o).drew.cell? a = some v := cell_under o h
end K
end Go.Proofs.Ytlmbpbhdbgadjaa
