/-
  What the contracts of the program's package wire lean on: mathematics of reading in steps, slices of the call's own, what stays.
-/
import Derived.Test.YtlmbpbhdbgadjaaRows
import Derived.Test.YtlmbpbhdbgadjaaWSeq
import Derived.WalkMore
import Derived.Deep.QuietTactic
import Derived.BigQuiet
import Derived.RegionTactic
import Derived.Deep.DeepCutAuto
import Derived.Laws.AppendOwnNone
import Derived.Outline
import Derived.Deep.LoopGhost
namespace Go.Proofs.Ytlmbpbhdbgadjaa
open Go.RowKit
namespace W
open H
set_option linter.unusedVariables false

theorem getElem?_drop0 {bs : List Int} {k : Nat} {c : Int} (h : bs[k]? = some c) : bs.drop k = c :: bs.drop (k + 1) := by
  have hk := (List.getElem?_eq_some_iff.1 h).1
  rw [List.drop_eq_getElem_cons hk]
  congr 1
  exact (List.getElem?_eq_some_iff.1 h).2
theorem rd_err0 : ∀ (bs : List Int) (k : Nat) (e : Int), rd k bs = .error e → e ≠ 0
  | [], k, e, h => by rw [rd_nil] at h; cases h; decide
  | c :: r, k, e, h => by
    rw [rd] at h
    split at h
    · cases h; decide
    · split at h
      · cases h
      · split at h
        · cases h; decide
        · split at h
          · cases h
          · rename_i e2 h2
            cases h
            exact rd_err0 r (k + 1) e h2
theorem infoB : (Try.prog.info? 5).map (fun i => (i.zero, i.size, i.bytes)) = some (some (.int .u8 0), 1, 1) := by kernel_rfl
/-- A new slice of bytes, the call's own. -/
def OwnB (w w' : World) (bs : List Int) (v : Value) : Prop := w'.ownsRow w.heap.size 5 1 v bs.length (bs.map (Value.int .u8)) ∧ Below w.heap.size w w'
/-- What an append to an own row leaves, where the block of the appended cells lies elsewhere. -/
theorem own_below0 {W w1 : World} {base k : Nat} {e : TypeId} {v : Value} {xs : List Value} (hb : base ≤ W.heap.size) (hrow : W.ownsRow base e 1 v k xs) (hgrow : W.grownBy w1 v.ownBlock) : Below base W w1 := by
  refine (Below.refl base W).grown hgrow hb fun j ej => ?_
  rcases hrow.2 with ⟨rfl, _⟩ | ⟨g, cap, cur, rfl, hb, _, _⟩
  · simp [Value.ownBlock] at ej
  · obtain rfl : g = j := by simpa [Value.ownBlock] using ej
    exact hb
theorem encL_snoc (zs : List Int) (z : Int) : encL (zs ++ [z]) = encL zs ++ encU (zig z) := by simp [encL]
theorem encL_len : ∀ (zs : List Int), (∀ z ∈ zs, -9223372036854775808 ≤ z ∧ z ≤ 9223372036854775807) → (encL zs).length ≤ 10 * zs.length
  | [], _ => by simp [encL]
  | z :: zs, h => by
    have h1 := encL_len zs (fun x hx => h x (by simp [hx]))
    have h2 := encU_len 9 (n := zig z) (by have := zig_lt (h z (by simp)); have : (18446744073709551616 : Nat) < 128 ^ (9 + 1) := by decide
                                           omega)
    have e : encL (z :: zs) = encU (zig z) ++ encL zs := by simp [encL]
    rw [e, List.length_append, List.length_cons]
    omega
/-- How far the reading of a number has come. -/
def Mid (bs : List Int) (k acc : Nat) : Prop :=
  k ≤ 9 ∧ acc < 128 ^ k ∧ rd 0 bs = match rd k (bs.drop k) with
    | .ok (m, rest) => .ok (acc + 128 ^ k * m, rest)
    | .error e => .error e
theorem Mid.start (bs : List Int) : Mid bs 0 0 := by
  refine ⟨by omega, by simp, ?_⟩
  rw [List.drop_zero]
  rcases rd 0 bs with e | ⟨m, r⟩ <;> simp
theorem Mid.short {bs : List Int} {k acc : Nat} (h : Mid bs k acc) (hk : bs.length ≤ k) : rd 0 bs = .error 6 := by
  rw [h.2.2, List.drop_of_length_le hk, rd_nil]
theorem Mid.bad {bs : List Int} {k acc : Nat} (h : Mid bs k acc) {c : Int} (hc : bs[k]? = some c) (hb : (k = 9 ∧ c ≠ 1) ∨ (0 < k ∧ c = 0)) : rd 0 bs = .error 7 := by
  rw [h.2.2, getElem?_drop0 hc, rd_bad hb]
theorem Mid.last {bs : List Int} {k acc : Nat} (h : Mid bs k acc) {c : Int} (hc : bs[k]? = some c) (hb : ¬ ((k = 9 ∧ c ≠ 1) ∨ (0 < k ∧ c = 0))) (hl : c < 128) : rd 0 bs = .ok (acc + 128 ^ k * c.toNat, bs.drop (k + 1)) := by
  rw [h.2.2, getElem?_drop0 hc, rd_last hb hl]
theorem Mid.next {bs : List Int} {k acc : Nat} (h : Mid bs k acc) {c : Int} (hc : bs[k]? = some c) (hk : k < 9) (hl : 128 ≤ c) : Mid bs (k + 1) (acc + 128 ^ k * (c % 128).toNat) := by
  obtain ⟨_, h1, h2⟩ := h
  refine ⟨by omega, ?_, ?_⟩
  · rw [Nat.pow_succ]
    have h3 : (c % 128).toNat ≤ 127 := by omega
    have h4 := Nat.mul_le_mul_left (128 ^ k) h3
    omega
  · rw [h2, getElem?_drop0 hc, rd_more hk hl]
    rcases rd (k + 1) (bs.drop (k + 1)) with e | ⟨m, r⟩
    · rfl
    · simp only
      rw [Nat.mul_add, Nat.pow_succ, Nat.mul_assoc, Nat.add_assoc]
theorem pow_le {k : Nat} (h : k ≤ 9) : 128 ^ k ≤ 9223372036854775808 := by
  have := Nat.pow_le_pow_right (n := 128) (by omega) h
  have e : (128 : Nat) ^ 9 = 9223372036854775808 := by decide
  omega
theorem RdI.cut {w : World} {B : Nat} {k : IntKind} {ad : Addr} {zs : List Int} (h : RdI w B k (some ad) zs) (m : Nat) : RdI w B k (some (ad.add m)) (zs.drop m) := by
  intro j hj
  rw [List.length_drop] at hj
  obtain ⟨ad', e, hb, hc⟩ := h (m + j) (by omega)
  cases e
  have e2 : (ad.add m).add j = ad.add (m + j) := by
    unfold Addr.add
    by_cases hi : m = 0 <;> by_cases hj : j = 0 <;> simp [hi, hj, Nat.add_assoc]
  refine ⟨_, rfl, by rw [add_block]; exact hb, ?_⟩
  rw [e2, hc, List.getElem?_drop]
theorem rU_lt {bs : List Int} (hb : Byt bs) (e : Int) : (rU (bs, e)).2 < 18446744073709551616 := by
  unfold rU
  split
  · simp
  · rcases hr : rd 0 bs with x | ⟨n, r⟩
    · simp
    · have h := (rd_canon bs 0 n r hb (by omega) hr).2.2
      have : (2 : Nat) * 128 ^ (9 - 0) = 18446744073709551616 := by decide
      simp only
      omega
theorem rU_byt {bs : List Int} (hb : Byt bs) (e : Int) : Byt (rU (bs, e)).1.1 := by
  unfold rU
  split
  · exact hb
  · rcases hr : rd 0 bs with x | ⟨n, r⟩
    · exact hb
    · have h := (rd_canon bs 0 n r hb (by omega) hr).1
      rw [h] at hb
      exact byt_right hb
theorem rU_len {bs : List Int} (hb : Byt bs) (e : Int) : (rU (bs, e)).1.1.length ≤ bs.length := by
  unfold rU
  split
  · exact Nat.le_refl _
  · rcases hr : rd 0 bs with x | ⟨n, r⟩
    · exact Nat.le_refl _
    · have h := congrArg List.length (rd_canon bs 0 n r hb (by omega) hr).1
      rw [List.length_append] at h
      simp only
      omega
theorem rS_len {bs : List Int} (hb : Byt bs) (e m : Int) : (rS (bs, e) m).1.1.length ≤ bs.length := by
  have h := rU_len hb e
  unfold rS
  split
  · exact h
  · split <;> exact h
theorem rS_byt {bs : List Int} (hb : Byt bs) (e m : Int) : Byt (rS (bs, e) m).1.1 := by
  have h := rU_byt hb e
  unfold rS
  split
  · exact h
  · split <;> exact h
theorem own_high {w : World} {base n : Nat} {e : TypeId} {A : Option Addr} {c : Nat} {xs : List Value} (h : w.ownsRow base e 1 (.slice A n c) n xs) : ∀ ad, A = some ad → base ≤ ad.block := by
  rintro ad rfl
  rcases h.2 with ⟨hv, _⟩ | ⟨g, cap, _, hv, hb, _⟩
  · cases hv
  · cases hv; exact hb
theorem rI_len {bs : List Int} (hb : Byt bs) (h : (rI (bs, 0)).1.2 = 0) : (rI (bs, 0)).1.1.length + 1 ≤ bs.length := by
  rcases hr : rd 0 bs with x | ⟨n, r⟩
  · unfold rI at h
    rw [rU_no hr] at h
    exact absurd h (rd_err0 bs 0 x hr)
  · unfold rI
    rw [rU_ok hr]
    have h1 := (rd_canon bs 0 n r hb (by omega) hr).1
    have h2 := congrArg List.length h1
    rw [List.length_append] at h2
    have := encU_pos n
    simp only
    omega
theorem rI_byt {bs : List Int} (hb : Byt bs) (e : Int) : Byt (rI (bs, e)).1.1 := rU_byt hb e
/-- k numbers of su have been read: those are xs, or an error stands. -/
def LInv (s : St) (su k : Nat) (cb : List Int) (ce : Int) (xs : List Int) : Prop :=
  k ≤ su ∧ xs.length = k ∧ Byt cb ∧ (ce = 0 → cb.length + k ≤ s.1.length ∧ rN s su = ((rN (cb, 0) (su - k)).1, xs ++ (rN (cb, 0) (su - k)).2)) ∧ (ce ≠ 0 → (rN s su).1 = (cb, ce)) ∧ cb.length ≤ s.1.length
theorem LInv.start {sb : List Int} {se : Int} (hb : Byt sb) (su : Nat) : LInv (sb, se) su 0 sb se [] := by
  refine ⟨Nat.zero_le _, rfl, hb, ?_, ?_, Nat.le_refl _⟩
  · rintro rfl
    exact ⟨Nat.le_refl _, rfl⟩
  · intro h
    exact rN_err h su
theorem LInv.next {s : St} {su k : Nat} {cb : List Int} {xs : List Int} (h : LInv s su k cb 0 xs) (hk : k < su) : LInv s su (k + 1) (rI (cb, 0)).1.1 (rI (cb, 0)).1.2 (xs ++ [(rI (cb, 0)).2]) := by
  obtain ⟨h1, h2, h3, h4, _, h6⟩ := h
  obtain ⟨h4, h5⟩ := h4 rfl
  obtain ⟨j, hj⟩ : ∃ j, su - k = j + 1 := ⟨su - k - 1, by omega⟩
  have hj2 : su - (k + 1) = j := by omega
  have hl := rI_len h3
  have hlu := rU_len h3 0
  rw [hj, rN] at h5
  have he : (rI (cb, 0)).1 = ((rI (cb, 0)).1.1, (rI (cb, 0)).1.2) := rfl
  refine ⟨by omega, by simp [h2], rI_byt h3 0, ?_, ?_, Nat.le_trans hlu h6⟩
  all_goals try rw [hj2]
  · intro h0
    have := hl h0
    refine ⟨by omega, ?_⟩
    rw [if_neg (by simpa using h0)] at h5
    rw [he, h0] at h5
    rw [h5]
    simp
  · intro h0
    rw [if_pos h0] at h5
    rw [h5]
theorem LInv.err {s : St} {m : Int} {k : Nat} {cb : List Int} {ce : Int} {xs : List Int} (h : LInv (rS s m).1 (rS s m).2 k cb ce xs) (h0 : ce ≠ 0) : rL s m = ((cb, ce), []) := by
  have h1 := h.2.2.2.2.1 h0
  unfold rL
  rw [if_pos (by rw [h1]; exact h0), h1]
theorem LInv.fin {s : St} {m : Int} {k : Nat} {cb : List Int} {xs : List Int} (h : LInv (rS s m).1 (rS s m).2 k cb 0 xs) (hk : (rS s m).2 ≤ k) : rL s m = ((cb, 0), xs) := by
  have h1 := (h.2.2.2.1 rfl).2
  have e : (rS s m).2 - k = 0 := by omega
  rw [e, rN] at h1
  unfold rL
  rw [if_neg (by rw [h1]; simp), h1]
  simp
theorem infoI : (Try.prog.info? 3).map (fun i => (i.zero, i.size, i.bytes)) = some (some (.int .i64 0), 1, 8) := by kernel_rfl
/-- All that was there is as it was, but the blocks of F. -/
structure Save (F : Nat → Prop) (w w' : World) : Prop where
  os : w'.os = w.os
  tape : w'.tape = w.tape
  output : w'.output = w.output
  size : w.heap.size ≤ w'.heap.size
  block : ∀ k, k < w.heap.size → ¬ F k → w'.heap[k]? = w.heap[k]?
theorem Save.below {F : Nat → Prop} {B : Nat} {w w' : World} (h : Save F w w') (hB : B ≤ w.heap.size) (hF : ∀ k, F k → B ≤ k) : Below B w w' :=
  ⟨h.os, h.tape, h.output, h.size, fun k hk => h.block k (by omega) fun hf => by have := hF k hf; omega⟩
theorem Save.of_below {w w' : World} (F : Nat → Prop) (h : Below w.heap.size w w') : Save F w w' := ⟨h.os, h.tape, h.output, h.size, fun k hk _ => h.block k hk⟩
theorem Save.refl (F : Nat → Prop) (w : World) : Save F w w := ⟨rfl, rfl, rfl, Nat.le_refl _, fun _ _ _ => rfl⟩
theorem Save.drew {F : Nat → Prop} {a w : World} (h : Save F a w) : Save F a w.drew := ⟨h.os, h.tape, h.output, h.size, h.block⟩
theorem rB_len {bs : List Int} (hb : Byt bs) (e m : Int) : (rB (bs, e) m).2.length ≤ bs.length := by
  have h := rS_len hb e m
  unfold rB
  split
  · simp
  · split
    · simp
    · simp only [List.length_take]
      omega
theorem rN_len : ∀ (n : Nat) (s : St), Byt s.1 → (rN s n).1.2 = 0 → (rN s n).2.length + (rN s n).1.1.length ≤ s.1.length
  | 0, s, _, _ => by simp [rN]
  | n + 1, s, hb, h => by
    have hs : s.2 = 0 := by
      rcases Decidable.em (s.2 = 0) with h0 | h0
      · exact h0
      · rw [rN_err h0] at h
        exact absurd h h0
    obtain ⟨bs, e⟩ := s
    obtain rfl : e = 0 := hs
    rw [rN] at h ⊢
    split at h
    · rename_i h1
      exact absurd h h1
    · rename_i h1
      rw [if_neg h1]
      have h2 : (rI (bs, 0)).1.2 = 0 := by simpa using h1
      have h3 := rI_len (bs := bs) hb h2
      have h5 : ((bs, (0 : Int)) : St).1.length = bs.length := rfl
      have h4 := rN_len n (rI (bs, 0)).1 (rI_byt hb 0) h
      simp only [List.length_cons] at h4 ⊢
      omega
theorem rL_len {bs : List Int} (hb : Byt bs) (e m : Int) : (rL (bs, e) m).2.length ≤ bs.length := by
  have h := rS_len hb e m
  unfold rL
  split
  · simp
  · rename_i h1
    have h2 := rN_len (rS (bs, e) m).2 (rS (bs, e) m).1 (rS_byt hb e m) (by simpa using h1)
    omega
theorem rdi_save {w w' : World} {B : Nat} {k : IntKind} {A : Option Addr} {zs : List Int} {G : Nat → Prop} (h : RdI w B k A zs) (hs : Save G w w') (hB : B ≤ w.heap.size) (hG : ∀ a, A = some a → ¬ G a.block) : RdI w' B k A zs := fun j hj => by
  obtain ⟨ad, e, hb, hc⟩ := h j hj
  exact ⟨ad, e, hb, (World.cell?_of_block (w := w) (hs.block _ (by rw [add_block]; omega) (by rw [add_block]; exact hG ad e))).trans hc⟩
end W
end Go.Proofs.Ytlmbpbhdbgadjaa
