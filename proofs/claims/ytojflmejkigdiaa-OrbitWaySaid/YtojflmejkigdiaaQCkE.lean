/-
  Both Checks say the same.
-/
import Derived.Test.YtojflmejkigdiaaQRChk
namespace Go.Proofs.Ytojflmejkigdiaa
open Go.RowKit Go.Shelf
namespace Q
set_option linter.unusedVariables false
set_option linter.unusedSimpArgs false
theorem srt_fr {T : List Wn} (h : srt T = true) : ∀ (d k : Nat) (x y : Wn), T[k + d]? = some x → T[k]? = some y → y.fr ≤ x.fr := by
  intro d
  induction d with
  | zero =>
    intro k x y hx hy
    rw [Nat.add_zero, hy] at hx
    obtain rfl := Option.some.inj hx
    exact Int.le_refl _
  | succ d ih =>
    intro k x y hx hy
    have hl := (List.getElem?_eq_some_iff.1 hx).1
    have hz : T[k + d]? = some (T[k + d]'(by omega)) := List.getElem?_eq_getElem (by omega)
    have h1 := ih k _ y hz hy
    have h2 := (srt_iff T).1 h (k + d) x _ (by rw [← hx]; rfl) hz
    unfold bef at h2
    have h3 := of_decide_eq_false h2
    omega
theorem ov_iff {T : List Wn} (h : srt T = true) (hf : ∀ x ∈ T, fm x = true) (i : Nat) : ov T i = (List.range i).any (bad2 T i) := by
  unfold ov
  cases hx : T[i]? with
  | none =>
    symm
    refine any_no fun k hk => ?_
    unfold bad2
    rw [hx]
  | some x =>
    have hl := (List.getElem?_eq_some_iff.1 hx).1
    have hfx := hf x (List.mem_of_getElem? hx)
    unfold fm at hfx
    have hfx2 := of_decide_eq_true hfx
    rw [Bool.eq_iff_iff, List.find?_isSome, List.any_eq_true]
    constructor
    · rintro ⟨y, hy, hp⟩
      obtain ⟨k, hk⟩ := List.mem_iff_getElem?.1 hy
      have hkl := (List.getElem?_eq_some_iff.1 hk).1
      rw [List.length_take] at hkl
      have hki : k < i := by omega
      rw [List.getElem?_take_of_lt hki] at hk
      refine ⟨k, List.mem_range.2 hki, ?_⟩
      unfold bad2
      rw [hx, hk]
      have h1 := srt_fr h (i - k) k x y (by rw [show k + (i - k) = i by omega]; exact hx) hk
      simp only [pAt, hk, op, Bool.and_eq_true, decide_eq_true_eq] at hp
      simp only [meet, decide_eq_true_eq]
      first | omega | (simp only [Q.hk, Q.op, decide_eq_true_eq] at hp; omega)
    · rintro ⟨k, hk, hb⟩
      have hki := List.mem_range.1 hk
      unfold bad2 at hb
      have hy : T[k]? = some (T[k]'(by omega)) := List.getElem?_eq_getElem (by omega)
      rw [hx, hy] at hb
      have h1 := srt_fr h (i - k) k x _ (by rw [show k + (i - k) = i by omega]; exact hx) hy
      refine ⟨_, List.mem_iff_getElem?.2 ⟨k, by rw [List.getElem?_take_of_lt hki]; exact hy⟩, ?_⟩
      simp only [meet, decide_eq_true_eq] at hb
      simp only [pAt, Bool.and_eq_true, Q.hk, Q.op, decide_eq_true_eq]
      omega
theorem chk_eq (T : List Wn) : chk T = rchk T := by
  unfold chk rchk
  by_cases h200 : 200 < T.length
  · rw [if_pos h200, if_pos h200]
  · rw [if_neg h200, if_neg h200]
    cases hf : (T.find? fun x => !fm x).isSome with
    | true => rfl
    | false =>
      have hff : ∀ x ∈ T, fm x = true := by
        rw [Option.isSome_eq_false_iff, Option.isNone_iff_eq_none, List.find?_eq_none] at hf
        intro x hx
        have := hf x hx
        simpa using this
      rw [if_neg Bool.false_ne_true, if_neg Bool.false_ne_true]
      cases hs : srt T with
      | false =>
        rw [if_pos rfl]
        have : ¬ ∀ i x y, T[i + 1]? = some x → T[i]? = some y → bef x y = false := fun h => by
          rw [(srt_iff T).2 h] at hs
          cases hs
        have hw : ∃ i x y, T[i + 1]? = some x ∧ T[i]? = some y ∧ bef x y = true := by
          apply Classical.byContradiction
          intro hn
          refine this fun i x y hx hy => ?_
          cases hb : bef x y with
          | false => rfl
          | true => exact absurd ⟨i, x, y, hx, hy, hb⟩ hn
        obtain ⟨i, x, y, hx, hy, hb⟩ := hw
        rw [any_yes (i := i + 1) (List.getElem?_eq_some_iff.1 hx).1 (by
          have h1 : bad1 T (i + 1) = true := by
            show (match T[i + 1]?, T[i]? with | some x, some y => bef x y | _, _ => false) = true
            rw [hx, hy]
            exact hb
          unfold bad
          rw [h1]
          rfl), if_pos rfl]
      | true =>
        rw [if_neg (fun h : true = false => Bool.noConfusion h)]
        have : ovl T = (List.range T.length).any (bad T) := by
          unfold ovl
          rw [Bool.eq_iff_iff, List.any_eq_true, List.any_eq_true]
          have hb : ∀ i, bad T i = ov T i := by
            intro i
            rw [ov_iff hs hff]
            have h1 : bad1 T i = false := by
              cases i with
              | zero => rfl
              | succ i =>
                show (match T[i + 1]?, T[i]? with | some x, some y => bef x y | _, _ => false) = false
                cases hx : T[i + 1]? with
                | none => rfl
                | some x =>
                  cases hy : T[i]? with
                  | none => rfl
                  | some y => exact (srt_iff T).1 hs i x y hx hy
            unfold bad
            rw [h1, Bool.false_or]
          simp only [hb]
        rw [this]
end Q
end Go.Proofs.Ytojflmejkigdiaa
