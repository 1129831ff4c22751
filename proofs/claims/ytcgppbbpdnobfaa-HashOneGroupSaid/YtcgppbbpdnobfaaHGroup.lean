/-
  Byte lists that differ within one group of eight bytes only: their hashes and tags are equal just where the lists are.
-/
import Derived.Test.YtcgppbbpdnobfaaHArr
namespace Go.Proofs.Ytcgppbbpdnobfaa
namespace H

/-- The two lists agree outside group q. -/
def OneGrp (q : Nat) (zs os : List Int) : Prop := os.length = zs.length ∧ ∀ m : Nat, m / 8 ≠ q → os[m]? = zs[m]?

theorem OneGrp.refl (q : Nat) (zs : List Int) : OneGrp q zs zs := ⟨rfl, fun _ _ => rfl⟩
theorem OneGrp.set {q : Nat} {zs os : List Int} (h : OneGrp q zs os) (m : Nat) (hm : m / 8 = q) (x : Int) : OneGrp q zs (os.set m x) := by
  refine ⟨by rw [List.length_set]; exact h.1, fun j hj => ?_⟩
  rw [List.getElem?_set_ne (by rintro rfl; exact hj hm)]
  exact h.2 j hj

theorem OneGrp.grp {q k : Nat} {zs os : List Int} (h : OneGrp q zs os) (hk : k ≠ q) : H.grp os k = H.grp zs k := by
  apply List.ext_getElem?
  intro j
  unfold H.grp
  rw [List.getElem?_take, List.getElem?_take]
  split
  · rw [List.getElem?_drop, List.getElem?_drop]
    exact h.2 _ (by omega)
  · rfl
theorem OneGrp.eq {q : Nat} {zs os : List Int} (h : OneGrp q zs os) (hg : H.grp os q = H.grp zs q) : os = zs := by
  apply List.ext_getElem?
  intro m
  by_cases hm : m / 8 = q
  · have e : ∀ l : List Int, l[m]? = (H.grp l q)[m - 8 * q]? := by
      intro l
      unfold H.grp
      rw [List.getElem?_take, if_pos (by omega), List.getElem?_drop]
      congr 1
      omega
    rw [e os, e zs, hg]
  · exact h.2 m hm
theorem OneGrp.words {q : Nat} {zs os : List Int} (h : OneGrp q zs os) : words os = (words zs).set q (le8 (H.grp os q)) := by
  apply List.ext_getElem
  · rw [List.length_set, words_length, words_length, h.1]
  · intro k h1 h2
    rw [List.getElem_set]
    split
    · next e =>
      subst e
      simp [H.words]
    · next e =>
      simp only [H.words, List.getElem_map, List.getElem_range]
      rw [h.grp (fun e' => e e'.symm)]

theorem OneGrp.le8 {q : Nat} {zs os : List Int} (h : OneGrp q zs os) (hz : Byt zs) (ho : Byt os) : H.le8 (H.grp os q) % 18446744073709551616 = H.le8 (H.grp zs q) % 18446744073709551616 ↔ os = zs := by
  have r1 := grp_range hz q
  have r2 := grp_range ho q
  constructor
  · intro e
    refine h.eq (le8_inj (grp_byt ho q) (grp_byt hz q) (by rw [grp_length, grp_length, h.1]) ?_)
    omega
  · rintro rfl
    rfl

theorem set_append_left {α : Type} {l : List α} {q : Nat} (hq : q < l.length) (r : List α) (x : α) : l.set q x ++ r = (l ++ r).set q x := by
  rw [List.set_append_left _ _ hq]

theorem OneGrp.bytes {q : Nat} {zs os : List Int} (h : OneGrp q zs os) (hz : Byt zs) (ho : Byt os) (hq : q < nw zs.length) (lab : List Int) : bytesI lab os = bytesI lab zs ↔ os = zs := by
  have hq' : q < (H.words zs).length := by rw [words_length]; exact hq
  rw [← h.le8 hz ho]
  unfold bytesI sumI
  rw [h.words, set_append_left hq', h.1, List.length_set, foldI_set _ q (by simp; omega)]
  rw [List.getElem_append_left hq']
  simp [H.words]

theorem OneGrp.tag {q : Nat} {zs os : List Int} (h : OneGrp q zs os) (hz : Byt zs) (ho : Byt os) (hq : q < nw zs.length) (key : Int) : tagI key os = tagI key zs ↔ os = zs := by
  have hq' : q < (H.words zs).length := by rw [words_length]; exact hq
  rw [← h.le8 hz ho]
  unfold tagI sumI
  have e : ([key] ++ (H.words zs).set q (H.le8 (H.grp os q)) ++ [((zs.length : Nat) : Int)]) = ([key] ++ H.words zs ++ [((zs.length : Nat) : Int)]).set (q + 1) (H.le8 (H.grp os q)) := by
    rw [List.append_assoc, set_append_left hq', List.append_assoc]
    rfl
  rw [h.words, h.1, e, List.length_set, foldI_set _ (q + 1) (by simp; omega)]
  simp [hq, H.words]

end H
end Go.Proofs.Ytcgppbbpdnobfaa
