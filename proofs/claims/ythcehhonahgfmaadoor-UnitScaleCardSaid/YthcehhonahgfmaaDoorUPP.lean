/-
  What Print says is parsed as the quantity.
-/
import Derived.Test.YthcehhonahgfmaaDoorUPM
import Derived.Test.YthcehhonahgfmaaDoorUJoin
namespace Go.Proofs.YthcehhonahgfmaaDoor
namespace U
set_option linter.unusedVariables false
--BEGIN
theorem natv_app (a : Nat) (r : List UInt8) (c : UInt8) : natv a (r ++ [c]) = 10 * natv a r + (c.toNat - 48) := by
  unfold natv
  rw [List.foldl_append]
  rfl
theorem dig_nat {d : Nat} (h : d < 10) : (UInt8.ofNat (48 + d)).toNat = 48 + d := by
  rw [UInt8.toNat_ofNat']
  omega
theorem dec_facts (u : Nat) : (Lib.decDigits u).all isDig = true ∧ natv 0 (Lib.decDigits u) = u ∧ Lib.decDigits u ≠ [] ∧ ((Lib.decDigits u).head? = some 48 → u = 0) := by
  induction u using Nat.strongRecOn with
  | _ u ih =>
    rw [Lib.decDigits]
    by_cases h : u < 10
    · rw [dif_pos h]
      have h1 := dig_nat h
      refine ⟨?_, ?_, by simp, ?_⟩
      · simp [isDig]; omega
      · show 10 * 0 + ((UInt8.ofNat (48 + u)).toNat - 48) = u
        rw [h1]; omega
      · intro e
        have e1 : UInt8.ofNat (48 + u) = 48 := by simpa using e
        have e2 : (UInt8.ofNat (48 + u)).toNat = 48 := by rw [e1]; rfl
        omega
    · rw [dif_neg h]
      obtain ⟨i1, i2, i3, i4⟩ := ih (u / 10) (by omega)
      have hd : u % 10 < 10 := by omega
      have h1 := dig_nat hd
      refine ⟨?_, ?_, by simp, ?_⟩
      · rw [List.all_append, i1]
        simp [isDig]; omega
      · rw [natv_app, i2, h1]; omega
      · intro e
        have e1 : (Lib.decDigits (u / 10)).head? = some 48 := by
          cases hh : Lib.decDigits (u / 10) with
          | nil => exact absurd hh i3
          | cons a r => rw [hh] at e; simpa using e
        have := i4 e1
        omega
theorem all_ne {r : List UInt8} {c : UInt8} (h : r.all isDig = true) (hc : isDig c = false) : ∀ x ∈ r, x ≠ c := fun x hx e => by
  have := List.all_eq_true.1 h x hx
  rw [e, hc] at this
  cases this
theorem itoa_num {n : Int} (h : -2147483647 ≤ n ∧ n ≤ 2147483647) : numT (Lib.itoa n) = (n, true) ∧ ∀ x ∈ Lib.itoa n, x ≠ 32 := by
  unfold Lib.itoa
  by_cases hn : n < 0
  · rw [if_pos hn]
    obtain ⟨i1, i2, i3, i4⟩ := dec_facts n.natAbs
    refine ⟨?_, ?_⟩
    · unfold numT
      simp only [List.head?_cons, if_true, List.tail_cons]
      rw [if_neg, if_pos i1, digs_eq, i2]
      · simp only [Prod.mk.injEq, and_true]; omega
      · rintro (h1 | ⟨h1, h2⟩)
        · exact i3 h1
        · have := i4 h1; omega
    · intro x hx
      rcases List.mem_cons.1 hx with rfl | hx
      · decide
      · exact all_ne i1 (by decide) x hx
  · rw [if_neg hn]
    obtain ⟨i1, i2, i3, i4⟩ := dec_facts n.toNat
    have h45 : (Lib.decDigits n.toNat).head? ≠ some 45 := by
      intro e
      have := List.mem_of_head? e
      exact all_ne i1 (c := 45) (by decide) 45 this rfl
    refine ⟨?_, all_ne i1 (by decide)⟩
    unfold numT
    simp only [if_neg h45]
    rw [if_neg, if_pos i1, digs_eq, i2]
    · simp only [Prod.mk.injEq, and_true]; omega
    · rintro (h1 | ⟨h1, h2⟩)
      · exact i3 h1
      · have h3 : n.toNat = 0 := i4 h1
        rw [h3, Lib.decDigits_one (by omega)] at h2
        simp at h2
/-- The base unit's dimension. -/
def ub : Nat → Dm
  | 0 => ⟨1, 0, 0, 0, 0⟩
  | 1 => ⟨0, 1, 0, 0, 0⟩
  | 2 => ⟨0, 0, 1, 0, 0⟩
  | 3 => ⟨0, 0, 0, 1, 0⟩
  | _ => ⟨0, 0, 0, 0, 1⟩
theorem look_base (j : Nat) : lookT (base j) = (ub j, 1, true) := by
  match j with
  | 0 => decide
  | 1 => decide
  | 2 => decide
  | 3 => decide
  | j + 4 => show lookT [75] = (⟨0, 0, 0, 0, 1⟩, 1, true); decide
def acc : List (Nat × Int) → Dm → Dm
  | [], m => m
  | (j, e) :: r, m => acc r (m.times ((ub j).raised e))
theorem times_raised0 (m x : Dm) : m.times (x.raised 0) = m := by
  unfold Dm.times Dm.raised
  simp only [Int.zero_mul, Int.add_zero]
theorem pcs_fold : ∀ (L : List (Nat × Int)), (∀ p ∈ L, p.1 < 5 ∧ -8 ≤ p.2 ∧ p.2 ≤ 8) → ∀ (n : Int) (m : Dm), (-2147483647 ≤ n ∧ n ≤ 2147483647) → ∃ fs, facsT (pcs L) = some fs ∧ facFold fs ⟨n, m⟩ = .ok ⟨n, acc L m⟩
  | [], _, n, m, _ => ⟨[], rfl, rfl⟩
  | (j, e) :: r, h, n, m, hn => by
    have hj := h (j, e) (by simp)
    have ih := pcs_fold r (fun p hp => h p (by simp [hp])) n (m.times ((ub j).raised e)) hn
    obtain ⟨fs, h1, h2⟩ := ih
    by_cases he : e = 0
    · subst he
      refine ⟨fs, h1, ?_⟩
      rw [times_raised0] at h2
      show facFold fs ⟨n, m⟩ = (.ok (Qt.mk n (acc r (m.times ((ub j).raised 0)))) : Except Int Qt)
      rw [times_raised0]
      exact h2
    · obtain ⟨⟨g, hg⟩, _⟩ := fac_ok j e hj.1 hj.2 he
      refine ⟨⟨base j, e, g⟩ :: fs, ?_, ?_⟩
      · show facsT (if e = 0 then pcs r else fac j e :: pcs r) = _
        rw [if_neg he]
        unfold facsT
        rw [hg]
        simp only []
        rw [h1]
        rfl
      · have hs : facStep ⟨n, m⟩ ⟨base j, e, g⟩ = (.ok (Qt.mk n (m.times ((ub j).raised e))) : Except Int Qt) := by
          unfold facStep
          simp only [look_base]
          rw [if_neg (by simp), if_neg (by omega)]
          unfold scaled
          rw [show max (min (n * 1) 2147483648) (-2147483648) = n by omega]
        unfold facFold
        rw [hs]
        exact h2
theorem name_nil {x : Dm} (h : nameT x = []) : pcsK x 5 = [] := by
  have h1 : joinT (pcsK x 5) = [] := by rw [← nmK_join]; exact h
  cases hp : pcsK x 5 with
  | nil => rfl
  | cons p r =>
    rw [hp] at h1
    cases r with
    | nil =>
      have := pcsK_ne x 5 p (by rw [hp]; simp)
      exact absurd h1 this
    | cons q t =>
      have : p ++ 42 :: joinT (q :: t) = [] := h1
      simp at this
theorem exps_ok {x : Dm} (h : x.in 8) : ∀ p ∈ exps x 5, p.1 < 5 ∧ -8 ≤ p.2 ∧ p.2 ≤ 8 := by
  intro p hp
  obtain ⟨a, b, c, d, e⟩ := h
  have : exps x 5 = [(0, x.e), (1, x.d), (2, x.t), (3, x.a), (4, x.h)] := rfl
  rw [this] at hp
  simp only [List.mem_cons, List.not_mem_nil, or_false] at hp
  rcases hp with rfl | rfl | rfl | rfl | rfl
  · exact ⟨show 0 < 5 by decide, a⟩
  · exact ⟨show 1 < 5 by decide, b⟩
  · exact ⟨show 2 < 5 by decide, c⟩
  · exact ⟨show 3 < 5 by decide, d⟩
  · exact ⟨show 4 < 5 by decide, e⟩
theorem acc_exps (x : Dm) : acc (exps x 5) .zero = x := by
  have h : exps x 5 = [(0, x.e), (1, x.d), (2, x.t), (3, x.a), (4, x.h)] := rfl
  rw [h]
  obtain ⟨e, d, t, a, h⟩ := x
  simp [acc, Dm.zero, Dm.times, Dm.raised, ub]
theorem joinT_len : ∀ (ps : List (List UInt8)) , (∀ p ∈ ps, p.length ≤ 6) → (joinT ps).length ≤ 7 * ps.length
  | [], _ => by simp [joinT]
  | [p], h => by have := h p (by simp); simp [joinT]; omega
  | p :: q :: r, h => by
    have h1 := h p (by simp)
    have h2 := joinT_len (q :: r) (fun x hx => h x (by simp at hx ⊢; right; exact hx))
    show (p ++ 42 :: joinT (q :: r)).length ≤ _
    simp only [List.length_append, List.length_cons] at h2 ⊢
    omega
theorem pcs_mem : ∀ (L : List (Nat × Int)) (p : List UInt8), p ∈ pcs L → ∃ q ∈ L, q.2 ≠ 0 ∧ p = fac q.1 q.2
  | [], p, h => by cases h
  | (j, e) :: r, p, h => by
    have h' : p ∈ (if e = 0 then pcs r else fac j e :: pcs r) := h
    by_cases he : e = 0
    · rw [if_pos he] at h'
      obtain ⟨q, h1, h2⟩ := pcs_mem r p h'
      exact ⟨q, by simp [h1], h2⟩
    · rw [if_neg he] at h'
      rcases List.mem_cons.1 h' with rfl | h'
      · exact ⟨(j, e), by simp, he, rfl⟩
      · obtain ⟨q, h1, h2⟩ := pcs_mem r p h'
        exact ⟨q, by simp [h1], h2⟩
theorem pcsK_facts {x : Dm} (h : x.in 8) : ∀ p ∈ pcsK x 5, (∀ c ∈ p, c ≠ 42) ∧ p.length ≤ 6 := by
  intro p hp
  obtain ⟨q, h1, h2, rfl⟩ := pcs_mem _ _ hp
  have hq := exps_ok h q h1
  obtain ⟨_, h3, h4, _⟩ := fac_ok q.1 q.2 hq.1 hq.2 h2
  exact ⟨h3, h4⟩
theorem itoa_len11 {n : Int} (h : -2147483647 ≤ n ∧ n ≤ 2147483647) : (Lib.itoa n).length ≤ 12 := by
  have hd : ∀ u : Nat, u ≤ 2147483647 → (Lib.decDigits u).length ≤ 11 := by
    intro u hu
    have hp : ∀ (k v : Nat), v < 10 ^ k → (Lib.decDigits v).length ≤ k + 1 := by
      intro k
      induction k with
      | zero => intro v hv; rw [Lib.decDigits, dif_pos (by omega)]; simp
      | succ k ih =>
        intro v hv
        rw [Lib.decDigits]
        split
        · simp
        · have := ih (v / 10) (by rw [Nat.pow_succ] at hv; omega)
          simp; omega
    exact hp 10 u (by omega)
  unfold Lib.itoa
  split
  · have := hd n.natAbs (by omega)
    simp; omega
  · have := hd n.toNat (by omega)
    omega
theorem print_short {q : Qt} (h : q.valid) : (printT q).length ≤ 60 := by
  have h1 := itoa_len11 h.1
  have h2 := joinT_len _ (fun p hp => (pcsK_facts h.2 p hp).2)
  have h3 := pcsK_len q.m 5
  have h4 : (nameT q.m).length ≤ 35 := by
    have : nameT q.m = joinT (pcsK q.m 5) := nmK_join q.m 5
    rw [this]; omega
  unfold printT
  split
  · omega
  · simp; omega
theorem print_len {q : Qt} (h : q.valid) : (⟨(printT q).toArray⟩ : ByteArray).size ≤ 140737488351232 := by
  have := print_short h
  show (printT q).toArray.size ≤ _
  simp; omega
theorem tw_app {l : List UInt8} (r : List UInt8) (h : ∀ x ∈ l, x ≠ 32) : (l ++ 32 :: r).takeWhile (· != 32) = l ∧ (l ++ 32 :: r).dropWhile (· != 32) = 32 :: r := by
  induction l with
  | nil => exact ⟨rfl, rfl⟩
  | cons x xs ih =>
    have hx : (x != 32) = true := by simpa using h x (by simp)
    have ih := ih (fun y hy => h y (by simp [hy]))
    constructor
    · show (x :: (xs ++ 32 :: r)).takeWhile _ = _
      rw [List.takeWhile_cons, if_pos hx, ih.1]
    · show (x :: (xs ++ 32 :: r)).dropWhile _ = _
      rw [List.dropWhile_cons, if_pos hx, ih.2]
theorem chk_valid {q : Qt} (h : q.valid) : chk q = (q, 0) := by unfold chk; rw [if_pos h]
theorem parse_print {q : Qt} (h : q.valid) : parseT (printT q) = (q, 0) := by
  obtain ⟨hn1, hn2⟩ := itoa_num h.1
  have hs := print_short h
  obtain ⟨fs, hf1, hf2⟩ := pcs_fold (exps q.m 5) (exps_ok h.2) q.n .zero h.1
  rw [acc_exps] at hf2
  unfold parseT
  rw [if_neg (by omega)]
  by_cases hnil : nameT q.m = []
  · have hp : printT q = Lib.itoa q.n := by unfold printT; rw [if_pos hnil]
    have hd := drop_none 32 _ hn2
    have hform : formT (printT q) = some (q.n, fs) := by
      have hK := name_nil hnil
      have hf3 : facsT (pcsK q.m 5) = some fs := hf1
      rw [hK] at hf3
      injection hf3 with hf3
      subst hf3
      rw [hp]
      unfold formT
      rw [take_of_miss 32 _ hd, hd, hn1]
      rfl
    rw [hform]
    simp only []
    rw [hf2]
    exact chk_valid h
  · have hp : printT q = Lib.itoa q.n ++ 32 :: nameT q.m := by unfold printT; rw [if_neg hnil]
    obtain ⟨ht, hd⟩ := tw_app (nameT q.m) hn2
    have hform : formT (printT q) = some (q.n, fs) := by
      have hne : pcsK q.m 5 ≠ [] := fun e => hnil (by have h9 : nameT q.m = joinT (pcsK q.m 5) := nmK_join q.m 5; rw [h9, e]; rfl)
      rw [hp]
      unfold formT
      rw [ht, hd, hn1]
      simp only [if_true]
      have h9 : nameT q.m = joinT (pcsK q.m 5) := nmK_join q.m 5
      rw [h9, splitT_join _ hne (fun p hp => (pcsK_facts h.2 p hp).1)]
      have hf3 : facsT (pcsK q.m 5) = some fs := hf1
      rw [hf3]
      rfl
    rw [hform]
    simp only []
    rw [hf2]
    exact chk_valid h
end U
end Go.Proofs.YthcehhonahgfmaaDoor
