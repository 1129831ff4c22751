/-
  Earliest arrivals as data: lists of 21 ticks, hops that improve them.
-/
import Derived.Test.YtojflmejkigdiaaQV3
namespace Go.Proofs.Ytojflmejkigdiaa
open Go.RowKit
namespace Q
open H
set_option linter.unusedVariables false
set_option linter.unusedSimpArgs false
def gt (l : List Int) (i : Int) : Int := l[i.toNat]?.getD 0
/-- A hop improves the tick of the node at its end. -/
def rx (size : Int) (l : List Int) (h : Hp) : List Int := if hend' h.w (gt l h.src) size < gt l h.dst then l.set h.dst.toNat (hend' h.w (gt l h.src) size) else l
def pass (H : List Hp) (size : Int) (l : List Int) : List Int := H.foldl (rx size) l
def ini (craft tick : Int) : List Int := (List.replicate 21 1000001).set craft.toNat tick
def itr (H : List Hp) (size : Int) : Nat → List Int → List Int
  | 0, l => l
  | k + 1, l => pass H size (itr H size k l)
structure Aok (l : List Int) : Prop where
  len : l.length = 21
  bd : ∀ i : Nat, i < 21 → 0 ≤ gt l i ∧ gt l i ≤ 1000001
structure Hok (h : Hp) : Prop where
  src : 0 ≤ h.src ∧ h.src < 12
  dst : 0 ≤ h.dst ∧ h.dst < 21
  w : Lok h.w
theorem gt_nat (l : List Int) (i : Nat) : gt l (i : Int) = l[i]?.getD 0 := rfl
theorem gt_set {l : List Int} {d : Nat} {v : Int} (hd : d < l.length) (i : Nat) : gt (l.set d v) (i : Int) = if i = d then v else gt l (i : Int) := by
  simp only [gt, Int.toNat_natCast, List.getElem?_set]
  by_cases h : d = i
  · subst h; simp [hd]
  · rw [if_neg h, if_neg (fun e => h e.symm)]
theorem ext21 {l l' : List Int} (h : l.length = 21) (h' : l'.length = 21) (he : ∀ i : Nat, i < 21 → gt l (i : Int) = gt l' (i : Int)) : l = l' := by
  apply List.ext_getElem (by omega)
  intro i h1 h2
  have := he i (by omega)
  simp only [gt, Int.toNat_natCast, List.getElem?_eq_getElem h1, List.getElem?_eq_getElem h2, Option.getD_some] at this
  exact this
theorem hend_bd {x : Wn} (h : Lok x) {t size : Int} (ht : 0 ≤ t) (hs : 1 ≤ size) : 0 ≤ hend' x t size ∧ hend' x t size ≤ 1000001 ∧ (hend' x t size < 1000001 → t < hend' x t size) := by
  have h1 := dur_bd h hs
  have h2 := h.fr
  have h3 := h.un
  unfold hend' beg
  split <;> omega
theorem hend_mono {x : Wn} (h : Lok x) {t t' size : Int} (ht : t ≤ t') (hs : 1 ≤ size) : hend' x t size ≤ hend' x t' size := by
  have h1 := dur_bd h hs
  have h2 := h.fr
  have h3 := h.un
  unfold hend' beg
  split <;> split <;> omega
theorem gt_rx {l : List Int} {h : Hp} {size : Int} (hl : l.length = 21) (ho : Hok h) (i : Nat) (hi : i < 21) : gt (rx size l h) (i : Int) = if (i : Int) = h.dst then min (gt l (i : Int)) (hend' h.w (gt l h.src) size) else gt l (i : Int) := by
  have hd := ho.dst
  obtain ⟨d, hdn⟩ : ∃ d : Nat, h.dst = d := ⟨h.dst.toNat, by omega⟩
  unfold rx
  rw [hdn]
  by_cases hc : hend' h.w (gt l h.src) size < gt l (d : Int)
  · rw [if_pos hc, Int.toNat_natCast, gt_set (by omega)]
    by_cases e : i = d
    · subst e; simp; omega
    · rw [if_neg e, if_neg (by omega)]
  · rw [if_neg hc]
    by_cases e : i = d
    · subst e; simp; omega
    · rw [if_neg (by omega)]
theorem rx_len (l : List Int) (h : Hp) (size : Int) : (rx size l h).length = l.length := by unfold rx; split <;> simp
theorem rx_ok {l : List Int} {h : Hp} {size : Int} (hl : Aok l) (ho : Hok h) (hs : 1 ≤ size) : Aok (rx size l h) := by
  refine ⟨by rw [rx_len, hl.len], fun i hi => ?_⟩
  have hsr := ho.src
  obtain ⟨s, hsn⟩ : ∃ s : Nat, h.src = s := ⟨h.src.toNat, by omega⟩
  have h1 := hl.bd s (by omega)
  have h2 := hend_bd ho.w (t := gt l h.src) (by rw [hsn]; exact h1.1) hs
  have h3 := hl.bd i hi
  rw [gt_rx hl.len ho i hi]
  split <;> omega
def tot (l : List Int) : Int := sumL l
where sumL : List Int → Int
  | [] => 0
  | z :: zs => z + sumL zs
theorem sum_set : ∀ (l : List Int) (d : Nat) (v : Int), d < l.length → tot.sumL (l.set d v) = tot.sumL l - (l[d]?.getD 0) + v
  | [], d, v, h => by simp at h
  | z :: zs, 0, v, h => by simp [tot.sumL]; omega
  | z :: zs, d + 1, v, h => by
    have ih := sum_set zs d v (by simpa using h)
    simp only [List.set_cons_succ, tot.sumL, List.getElem?_cons_succ, ih]
    omega
theorem rx_tot {l : List Int} {h : Hp} {size : Int} (hl : l.length = 21) (ho : Hok h) : (hend' h.w (gt l h.src) size < gt l h.dst → tot (rx size l h) < tot l) ∧ (¬ hend' h.w (gt l h.src) size < gt l h.dst → rx size l h = l) := by
  have hd := ho.dst
  refine ⟨fun hc => ?_, fun hc => by unfold rx; rw [if_neg hc]⟩
  unfold rx
  rw [if_pos hc]
  show tot.sumL _ < tot.sumL _
  rw [sum_set l _ _ (by omega)]
  unfold gt at hc ⊢
  omega
theorem sum_nonneg : ∀ (l : List Int), (∀ z ∈ l, 0 ≤ z) → 0 ≤ tot.sumL l
  | [], _ => Int.le_refl _
  | z :: zs, h => by
    have h1 := h z (by simp)
    have h2 := sum_nonneg zs fun y hy => h y (by simp [hy])
    simp only [tot.sumL]
    omega
theorem tot_nonneg {l : List Int} (hl : Aok l) : 0 ≤ tot l := sum_nonneg l fun z hz => by
  obtain ⟨i, hi⟩ := List.mem_iff_getElem?.1 hz
  have hlt := (List.getElem?_eq_some_iff.1 hi).1
  have h := hl.bd i (by have := hl.len; omega)
  rw [gt_nat, hi] at h
  exact h.1
theorem ini_ok {craft tick : Int} (hc : 0 ≤ craft ∧ craft < 12) (ht : 0 ≤ tick ∧ tick ≤ 1000000) : Aok (ini craft tick) := by
  obtain ⟨c, rfl⟩ : ∃ c : Nat, craft = c := ⟨craft.toNat, by omega⟩
  refine ⟨by simp [ini], fun i hi => ?_⟩
  unfold ini
  rw [Int.toNat_natCast, gt_set (by simp; omega)]
  split
  · omega
  · have : gt (List.replicate 21 (1000001 : Int)) (i : Int) = 1000001 := by unfold gt; rw [Int.toNat_natCast, List.getElem?_replicate, if_pos hi]; rfl
    rw [this]
    omega
end Q
end Go.Proofs.Ytojflmejkigdiaa
