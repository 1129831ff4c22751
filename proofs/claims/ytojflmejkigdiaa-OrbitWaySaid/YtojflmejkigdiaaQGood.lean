/-
  Tables as insert makes them: sorted, well-formed, and no two windows of a key meet.
-/
import Derived.Test.YtojflmejkigdiaaQIns
namespace Go.Proofs.Ytojflmejkigdiaa
open Go.RowKit Go.Shelf
namespace Q
set_option linter.unusedVariables false
set_option linter.unusedSimpArgs false
theorem bef_trans {x y z : Wn} (h : bef x y = true) (k : bef y z = true) : bef x z = true := by
  unfold bef at *
  simp only [decide_eq_true_eq] at *
  omega
theorem bef_asym {x y : Wn} (h : bef x y = true) : bef y x = false := by
  unfold bef at *
  simp only [decide_eq_true_eq, decide_eq_false_iff_not] at *
  omega
theorem meet_comm (x y : Wn) : meet x y = meet y x := by
  unfold meet
  rw [decide_eq_decide]
  constructor <;> (rintro ⟨⟨h1, h2, h3⟩, h4, h5⟩; exact ⟨⟨h1.symm, h2.symm, h3.symm⟩, h5, h4⟩)
theorem fm_lt {x : Wn} (h : fm x = true) : x.fr < x.un := by
  unfold fm at h
  exact (of_decide_eq_true h).1.2.1
theorem bef_tot {x y : Wn} (hx : fm x = true) (hy : fm y = true) (hm : meet y x = false) (h : bef y x = false) : bef x y = true := by
  have h1 := fm_lt hx
  have h2 := fm_lt hy
  unfold bef meet at *
  simp only [decide_eq_true_eq, decide_eq_false_iff_not] at *
  omega
structure Good (T : List Wn) : Prop where
  st : T.Pairwise (fun y z => bef y z = true)
  nm : T.Pairwise (fun y z => meet y z = false)
  ok : ∀ x ∈ T, fm x = true
theorem Good.nil : Good [] := ⟨List.Pairwise.nil, List.Pairwise.nil, fun x h => by simp at h⟩
theorem ins_pw {R : Wn → Wn → Prop} {T : List Wn} {x : Wn} {p : Nat} (hT : T.Pairwise R) (hl : ∀ y ∈ T.take p, R y x) (hr : ∀ z ∈ T.drop p, R x z) : (T.take p ++ x :: T.drop p).Pairwise R := by
  rw [← List.take_append_drop p T, List.pairwise_append] at hT
  rw [List.pairwise_append]
  refine ⟨hT.1, List.pairwise_cons.2 ⟨hr, hT.2.1⟩, fun a ha b hb => ?_⟩
  rcases List.mem_cons.1 hb with rfl | hb
  · exact hl a ha
  · exact hT.2.2 a ha b hb
theorem st_get {T : List Wn} (h : T.Pairwise (fun y z => bef y z = true)) {i j : Nat} {x y : Wn} (hij : i < j) (hx : T[i]? = some x) (hy : T[j]? = some y) : bef x y = true := by
  obtain ⟨h1, rfl⟩ := List.getElem?_eq_some_iff.1 hx
  obtain ⟨h2, rfl⟩ := List.getElem?_eq_some_iff.1 hy
  exact List.pairwise_iff_getElem.1 h i j h1 h2 hij
theorem nm_get {T : List Wn} (h : T.Pairwise (fun y z => meet y z = false)) {i j : Nat} {x y : Wn} (hij : i < j) (hx : T[i]? = some x) (hy : T[j]? = some y) : meet x y = false := by
  obtain ⟨h1, rfl⟩ := List.getElem?_eq_some_iff.1 hx
  obtain ⟨h2, rfl⟩ := List.getElem?_eq_some_iff.1 hy
  exact List.pairwise_iff_getElem.1 h i j h1 h2 hij
/-- The windows behind which x goes are those that may stand before it. -/
theorem posN_lo {T : List Wn} (h : T.Pairwise (fun y z => bef y z = true)) (x : Wn) : ∀ n, n ≤ T.length → ∀ j y, j < posN T x n → T[j]? = some y → bef y x = true
  | 0, _, j, y, hj, _ => absurd hj (Nat.not_lt_zero _)
  | n + 1, hn, j, y, hj, hy => by
    have hz : T[n]? = some (T[n]'(by omega)) := List.getElem?_eq_getElem (by omega)
    rw [posN_step hz] at hj
    cases hb : bef (T[n]'(by omega)) x with
    | false =>
      rw [hb] at hj
      exact posN_lo h x n (by omega) j y hj hy
    | true =>
      rw [hb, if_pos rfl] at hj
      rcases Nat.lt_or_ge j n with h1 | h1
      · exact bef_trans (st_get h h1 hy hz) hb
      · obtain rfl : j = n := by omega
        rw [hz] at hy
        obtain rfl := Option.some.inj hy
        exact hb
theorem posN_hi {T : List Wn} (x : Wn) : ∀ n, n ≤ T.length → ∀ j y, posN T x n ≤ j → j < n → T[j]? = some y → bef y x = false
  | 0, _, j, y, _, hj, _ => absurd hj (Nat.not_lt_zero _)
  | n + 1, hn, j, y, hp, hj, hy => by
    have hz : T[n]? = some (T[n]'(by omega)) := List.getElem?_eq_getElem (by omega)
    rw [posN_step hz] at hp
    cases hb : bef (T[n]'(by omega)) x with
    | true =>
      rw [hb, if_pos rfl] at hp
      omega
    | false =>
      rw [hb] at hp
      rcases Nat.lt_or_ge j n with h1 | h1
      · exact posN_hi x n (by omega) j y hp h1 hy
      · obtain rfl : j = n := by omega
        rw [hz] at hy
        obtain rfl := Option.some.inj hy
        exact hb
theorem ins_good {T : List Wn} {x : Wn} (h : Good T) (hx : fm x = true) : Good (ins T x) := by
  unfold ins
  cases hm : T.any (fun y => meet y x) with
  | true => exact h
  | false =>
    rw [if_neg Bool.false_ne_true]
    have hm2 : ∀ y ∈ T, meet y x = false := fun y hy => by
      have := List.any_eq_false.1 hm y hy
      simpa using this
    refine ⟨ins_pw h.st (fun y hy => ?_) (fun z hz => ?_), ins_pw h.nm (fun y hy => hm2 y (List.mem_of_mem_take hy)) (fun z hz => by rw [meet_comm]; exact hm2 z (List.mem_of_mem_drop hz)), fun y hy => ?_⟩
    · obtain ⟨j, hj⟩ := List.mem_iff_getElem?.1 hy
      have hl := (List.getElem?_eq_some_iff.1 hj).1
      rw [List.length_take] at hl
      rw [List.getElem?_take_of_lt (by omega)] at hj
      exact posN_lo h.st x _ (Nat.le_refl _) j y (by omega) hj
    · obtain ⟨j, hj⟩ := List.mem_iff_getElem?.1 hz
      rw [List.getElem?_drop] at hj
      have hl := (List.getElem?_eq_some_iff.1 hj).1
      have hmz := List.mem_of_mem_drop hz
      exact bef_tot hx (h.ok z hmz) (hm2 z hmz) (posN_hi x _ (Nat.le_refl _) _ z (Nat.le_add_right _ _) hl hj)
    · rcases List.mem_append.1 hy with hy | hy
      · exact h.ok y (List.mem_of_mem_take hy)
      · rcases List.mem_cons.1 hy with rfl | hy
        · exact hx
        · exact h.ok y (List.mem_of_mem_drop hy)
theorem ins_len (T : List Wn) (x : Wn) : (ins T x).length ≤ T.length + 1 := by
  unfold ins
  split
  · omega
  · rw [List.length_append, List.length_cons, List.length_take, List.length_drop]
    omega
theorem fm_none {T : List Wn} (h : ∀ x ∈ T, fm x = true) : (T.find? fun x => !fm x).isSome = false := by
  rw [Option.isSome_eq_false_iff, Option.isNone_iff_eq_none, List.find?_eq_none]
  intro x hx
  rw [h x hx]
  simp
/-- A table as insert makes it is one. -/
theorem chk_good {T : List Wn} (h : Good T) (hl : T.length ≤ 200) : chk T = 0 := by
  have hs : srt T = true := (srt_iff T).2 fun i x y hx hy => bef_asym (st_get h.st (Nat.lt_succ_self i) hy hx)
  have ho : ovl T = false := ovl_no fun i hi => by
    rw [ov_iff hs h.ok]
    refine any_no fun k hk => ?_
    have hx : T[i]? = some T[i] := List.getElem?_eq_getElem hi
    have hy : T[k]? = some (T[k]'(by omega)) := List.getElem?_eq_getElem (by omega)
    unfold bad2
    rw [hx, hy]
    show meet _ _ = false
    rw [meet_comm]
    exact nm_get h.nm hk hy hx
  unfold chk
  rw [if_neg (by omega), fm_none h.ok, if_neg Bool.false_ne_true, hs, if_neg (fun h : true = false => Bool.noConfusion h), ho, if_neg Bool.false_ne_true]
/-- Without some of its windows it still is one. -/
theorem Good.sub {T L : List Wn} (h : Good T) (hs : L.Sublist T) : Good L := ⟨h.st.sublist hs, h.nm.sublist hs, fun x hx => h.ok x (hs.subset hx)⟩
/-- Two neighbours exchanged: the order is wrong. -/
theorem chk_swap {T L : List Wn} (h : Good T) (hl : T.length ≤ 200) {k : Nat} {x y : Wn} (hx : T[k]? = some x) (hy : T[k + 1]? = some y) (hL : L.length = T.length) (h1 : L[k]? = some y) (h2 : L[k + 1]? = some x) (hm : ∀ z ∈ L, z ∈ T) : chk L = 23 := by
  have hs : srt L = false := by
    cases hq : srt L with
    | false => rfl
    | true =>
      have := (srt_iff L).1 hq k x y h2 h1
      rw [st_get h.st (Nat.lt_succ_self k) hx hy] at this
      cases this
  unfold chk
  rw [if_neg (by omega), fm_none (fun z hz => h.ok z (hm z hz)), if_neg Bool.false_ne_true, hs, if_pos rfl]
end Q
end Go.Proofs.Ytojflmejkigdiaa
