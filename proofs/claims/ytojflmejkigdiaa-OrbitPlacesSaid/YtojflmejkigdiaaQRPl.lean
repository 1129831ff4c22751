/-
  The specification's Places; it and the landed one return the same regions.
-/
import Derived.Test.YtojflmejkigdiaaQRAt
import Derived.Test.YtojflmejkigdiaaQPl
import Derived.Test.YtojflmejkigdiaaApp2
import Derived.Test.YtojflmejkigdiaaQWay
namespace Go.Proofs.Ytojflmejkigdiaa
open Go.RowKit Go.Shelf
namespace Q
open H
set_option linter.unusedVariables false
set_option linter.unusedSimpArgs false
set_option maxRecDepth 100000
def plb (T : List Wn) (a t : Int) (b : Int) : Bool := (T.find? (pAt 4 a b t)).isSome
def pls (T : List Wn) (a t : Int) : Nat → List Int
  | 0 => []
  | n + 1 => if plb T a t (n : Int) = true then pls T a t n ++ [(n : Int)] else pls T a t n
theorem pls_len (T : List Wn) (a t : Int) : ∀ n, (pls T a t n).length ≤ n
  | 0 => Nat.le_refl _
  | n + 1 => by
    have := pls_len T a t n
    show (if plb T a t (n : Int) = true then pls T a t n ++ [(n : Int)] else pls T a t n).length ≤ n + 1
    split
    · rw [List.length_append, List.length_singleton]; omega
    · omega
theorem pls_mem (T : List Wn) (a t : Int) (z : Int) : ∀ n, z ∈ pls T a t n ↔ (0 ≤ z ∧ z < n) ∧ plb T a t z = true
  | 0 => by simp [pls]; omega
  | n + 1 => by
    have ih := pls_mem T a t z n
    show z ∈ (if plb T a t (n : Int) = true then pls T a t n ++ [(n : Int)] else pls T a t n) ↔ _
    by_cases h : plb T a t (n : Int) = true
    · rw [if_pos h, List.mem_append, List.mem_singleton, ih]
      constructor
      · rintro (⟨h1, h2⟩ | rfl)
        · exact ⟨by omega, h2⟩
        · exact ⟨by omega, h⟩
      · rintro ⟨h1, h2⟩
        by_cases e : z = n
        · exact .inr e
        · exact .inl ⟨by omega, h2⟩
    · rw [if_neg h, ih]
      constructor
      · rintro ⟨h1, h2⟩; exact ⟨by omega, h2⟩
      · rintro ⟨h1, h2⟩
        refine ⟨?_, h2⟩
        by_cases e : z = n
        · rw [e] at h2; exact absurd h2 h
        · omega
theorem pls_lt (T : List Wn) (a t : Int) : ∀ n, (pls T a t n).Pairwise (· < ·)
  | 0 => List.Pairwise.nil
  | n + 1 => by
    have ih := pls_lt T a t n
    show (if plb T a t (n : Int) = true then pls T a t n ++ [(n : Int)] else pls T a t n).Pairwise (· < ·)
    split
    · rw [List.pairwise_append]
      refine ⟨ih, List.pairwise_singleton _ _, fun x hx y hy => ?_⟩
      rw [List.mem_singleton.1 hy]
      exact ((pls_mem T a t x n).1 hx).1.2
    · exact ih
theorem lt_ext : ∀ {l m : List Int}, l.Pairwise (· < ·) → m.Pairwise (· < ·) → (∀ z, z ∈ l ↔ z ∈ m) → l = m
  | [], [], _, _, _ => rfl
  | [], y :: m, _, _, h => by have := (h y).2 (by simp); simp at this
  | x :: l, [], _, _, h => by have := (h x).1 (by simp); simp at this
  | x :: l, y :: m, hl, hm, h => by
    obtain ⟨l1, l2⟩ := List.pairwise_cons.1 hl
    obtain ⟨m1, m2⟩ := List.pairwise_cons.1 hm
    have e : x = y := by
      rcases List.mem_cons.1 ((h x).1 (by simp)) with e | hx
      · exact e
      · rcases List.mem_cons.1 ((h y).2 (by simp)) with e | hy
        · exact e.symm
        · have a1 := m1 x hx
          have a2 := l1 y hy
          omega
    subst e
    rw [lt_ext l2 m2 fun z => ?_]
    have hz := h z
    rw [List.mem_cons, List.mem_cons] at hz
    constructor
    · intro hzl
      rcases hz.1 (.inr hzl) with e | h2
      · have := l1 z hzl; omega
      · exact h2
    · intro hzm
      rcases hz.2 (.inr hzm) with e | h2
      · have := m1 z hzm; omega
      · exact h2
theorem plb_iff {T : List Wn} {a t b : Int} : plb T a t b = true ↔ ∃ x ∈ T, pPlaces a t x = true ∧ x.b = b := by
  unfold plb
  rw [List.find?_isSome]
  constructor
  · rintro ⟨x, hx, hp⟩
    unfold pAt hk at hp
    unfold pPlaces
    simp only [Bool.and_eq_true, decide_eq_true_eq] at *
    exact ⟨x, hx, ⟨⟨hp.1.1, hp.1.2.1⟩, hp.2⟩, hp.1.2.2⟩
  · rintro ⟨x, hx, hp, hb⟩
    unfold pPlaces at hp
    refine ⟨x, hx, ?_⟩
    unfold pAt hk
    simp only [Bool.and_eq_true, decide_eq_true_eq] at *
    exact ⟨⟨hp.1.1, hp.1.2, hb⟩, hp.2⟩
theorem placs_mem (T : List Wn) (a t z : Int) : z ∈ placs T a t ↔ plb T a t z = true := by
  unfold placs srtI
  rw [List.mem_mergeSort, plb_iff]
  constructor
  · intro h
    obtain ⟨x, hx, rfl⟩ := List.mem_map.1 h
    obtain ⟨h1, h2⟩ := List.mem_filter.1 hx
    exact ⟨x, h1, h2, rfl⟩
  · rintro ⟨x, hx, hp, rfl⟩
    exact List.mem_map.2 ⟨x, List.mem_filter.2 ⟨hx, hp⟩, rfl⟩
theorem placs_ne {T : List Wn} (h : Good T) (a t : Int) : ((T.filter (pPlaces a t)).map (·.b)).Pairwise (· ≠ ·) := by
  rw [List.pairwise_map]
  refine List.Pairwise.imp_of_mem (R := fun y z => meet y z = false) (fun {x y} hx hy hm e => ?_) (h.nm.filter _)
  have h1 := (List.mem_filter.1 hx).2
  have h2 := (List.mem_filter.1 hy).2
  unfold pPlaces op at h1 h2
  unfold meet at hm
  simp only [Bool.and_eq_true, decide_eq_true_eq, decide_eq_false_iff_not] at *
  omega
theorem placs_lt {T : List Wn} (h : Good T) (a t : Int) : (placs T a t).Pairwise (· < ·) := by
  have h1 : (placs T a t).Pairwise (fun x y => decide (x ≤ y) = true) := List.pairwise_mergeSort (fun a b c h1 h2 => by simp only [decide_eq_true_eq] at *; omega) (fun a b => by simp only [Bool.or_eq_true, decide_eq_true_eq]; omega) _
  have h2 : (placs T a t).Pairwise (· ≠ ·) := (List.mergeSort_perm _ _).symm.pairwise (placs_ne h a t) (fun h => h.symm)
  exact (h1.and h2).imp fun {x y} hxy => by
    have h3 := hxy.1
    have h4 := hxy.2
    simp only [decide_eq_true_eq] at h3
    omega
theorem places_eq {T : List Wn} (h : Good T) (a t : Int) : placs T a t = pls T a t 32 := by
  refine lt_ext (placs_lt h a t) (pls_lt T a t 32) fun z => ?_
  rw [placs_mem, pls_mem]
  refine ⟨fun hz => ⟨?_, hz⟩, fun hz => hz.2⟩
  obtain ⟨x, hx, hp, hb⟩ := plb_iff.1 hz
  have hf := h.ok x hx
  unfold pPlaces at hp
  unfold fm suits at hf
  simp only [Bool.and_eq_true, decide_eq_true_eq] at *
  omega
theorem has_open (T : List Wn) (a t b : Int) : decide (b ∈ placs T a t) = (T.find? (pAt 4 a b t)).isSome := by
  have h := placs_mem T a t b
  unfold plb at h
  cases hq : (T.find? (pAt 4 a b t)).isSome with
  | true => exact decide_eq_true (h.2 hq)
  | false => rw [hq] at h; exact decide_eq_false (fun hb => by have := h.1 hb; cases this)
set_option maxHeartbeats 4000000 in
theorem rplaces_any (T : List Wn) (A : Option Addr) (cap B : Nat) (a t : Int) (w : World) (hB : B ≤ w.heap.size) (hlen : T.length ≤ 140737488351232) (hR : RdsWn w B A T) :
    Calls Try.prog 26 #[.slice A T.length cap, .int .i64 a, .int .i64 t] w fun e w' => ∃ v, e = .returned v ∧ w'.ownsRow w.heap.size 3 1 v (pls T a t 32).length (ints (pls T a t 32)) ∧ Below w.heap.size w w' := by
  obtain ⟨i0, hi, hz0, hz1, hz2⟩ := info_parts infoI
  have HA : Hid (∀ (b : Nat) W, Below w.heap.size w W → Calls Try.prog 19 #[.slice A T.length cap, .int .i64 4, .int .i64 a, .int .i64 (b : Int), .int .i64 t] W fun e w' => (∃ y : Wn, e = .returned (.tuple #[y.v, .bool (plb T a t b)])) ∧ Below W.heap.size W w') := Lib.hid (fun b W hW => (rAt_any T A cap B 4 a b t W (Nat.le_trans hB hW.size) hlen (hR.below (hW.mono hB))).mono fun e w' ⟨h1, h2⟩ => ⟨⟨_, h1⟩, h2⟩)
  have HS : Hid (∀ n : Nat, pls T a t (n + 1) = if plb T a t (n : Int) = true then pls T a t n ++ [(n : Int)] else pls T a t n) := Lib.hid (fun n => rfl)
  have HL := Lib.hid (pls_len T a t)
  have H0 : Hid (pls T a t 0 = []) := Lib.hid rfl
  clear hR
  generalize T.length = len at *
  generalize pls T a t = P at *
  generalize plb T a t = p at *
  go_enter Try.func26, Try.ntmps26
  go_wp2_with fail
  go_loopg [7, 8] 32 (fun g s i wr => ∃ q : Nat, q + g = 32 ∧ i = .int .i64 (q : Nat) ∧ wr.ownsRow w.heap.size 3 1 s (P q).length (ints (P q)) ∧ Below w.heap.size w wr)
  case atStart => exact ⟨0, rfl, rfl, by rw [H0.out]; exact World.ownsRow_nil _ _ _ _, Below.refl _ _⟩
  case round =>
    obtain ⟨q, hg, rfl, hO, hB2⟩ := hrel
    have BEL := Lib.hid hB2
    have HG := Lib.hid hg
    have HO := Lib.hid hO
    have hqn : q ≤ 32 := by omega
    have hql := HL.out q
    clear hg hB2 hO
    by_cases hlt : q < 32
    · have HLT := Lib.hid hlt
      have hqi : (q : Int) < 32 := by omega
      have HA2 := Lib.hid (HA.out q wr BEL.out)
      have HSQ := Lib.hid (HS.out q)
      clear hlt
      generalize p (q : Int) = r at *
      cases r with
      | false =>
        go_wp2_with (go_at_call 19; refine HA2.out.mono ?_; rintro e w3 ⟨⟨y, rfl⟩, hB3⟩)
        go_roundg (gk - 1)
        case measure => have := HG.out; have := HLT.out; omega
        case rel => exact ⟨q + 1, by have := HG.out; have := HLT.out; omega, by go_num, by rw [HSQ.out, if_neg (by simp)]; exact own_kept_below HO.out (bt hB3 (bel1 _ _)), BEL.out.trans ((bt hB3 (bel1 _ _)).mono BEL.out.size)⟩
      | true =>
        go_wp2_with (first
          | (go_at_call 19; refine HA2.out.mono ?_; rintro e w3 ⟨⟨y, rfl⟩, hB3⟩; have HB3 := Lib.hid hB3; clear hB3)
          | (at_builtin; refine wpList_append_new rfl (.tmp 24) (.tmp 26) 27 rfl w.heap.size 3 i0 (.int .i64 0) 1 8 Try.underlying27 hi hz0 hz1 hz2 rfl (by decide) u7 (P q).length (ints (P q)) rfl (own_kept_below HO.out (bt (bt HB3.out (bel1 _ _)) (bel1 _ _))) (w3.heap.size + 1) 1 [.int .i64 (q : Int)] rfl rfl (by simp) (by intro y hy; rw [List.mem_singleton.1 hy]; rfl) (by unfold maxLen; omega) (by omega) (by have h1 := HB3.out.size; have h2 := BEL.out.size; simp; omega) ?_; intro v2 w5 ho2 hB5; have HO2 := Lib.hid ho2; have HB5 := Lib.hid hB5; clear ho2 hB5))
        go_roundg (gk - 1)
        case measure => have := HG.out; have := HLT.out; omega
        case rel => exact ⟨q + 1, by have := HG.out; have := HLT.out; omega, by go_num, by rw [HSQ.out, if_pos trivial]; exact own_any HO2.out (by simp) (by simp [ints]), (BEL.out.trans ((bt (bt HB3.out (bel1 _ _)) (bel1 _ _)).mono BEL.out.size)).trans HB5.out⟩
    · have hqi : ¬ (q : Int) < 32 := by omega
      obtain rfl : q = 32 := by omega
      go_wp2_with fail
      go_ret
      exact ⟨_, rfl, HO.out, BEL.out⟩
end Q
end Go.Proofs.Ytojflmejkigdiaa
