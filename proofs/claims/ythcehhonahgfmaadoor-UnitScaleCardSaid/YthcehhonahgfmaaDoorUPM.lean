/-
  What the program's Parse says of a text, in the program's own steps, is what the specification says.
-/
import Derived.Test.YthcehhonahgfmaaDoorUParse
import Derived.Lib.SplitLaws
import Derived.Lib.AtoiAll
namespace Go.Proofs.YthcehhonahgfmaaDoor
namespace U
set_option linter.unusedVariables false
--BEGIN
/-! ### Cut and Split at one byte -/
theorem index_one_hit (c : UInt8) : ∀ l : List UInt8, l.dropWhile (· != c) ≠ [] → Lib.index l [c] = (l.takeWhile (· != c)).length
  | [], h => absurd rfl h
  | x :: xs, h => by
    unfold Lib.index
    by_cases hx : x = c
    · subst hx
      simp [List.isPrefixOf]
    · have hp : ([c] : List UInt8).isPrefixOf (x :: xs) = false := by simp [List.isPrefixOf, Ne.symm hx]
      have hb : (x != c) = true := by simpa using hx
      rw [List.dropWhile_cons, if_pos hb] at h
      have ih := index_one_hit c xs h
      rw [hp, ih, List.takeWhile_cons, if_pos hb]
      have : ((((xs.takeWhile (· != c)).length : Nat) : Int) == -1) = false := by rw [beq_eq_false_iff_ne]; omega
      simp [this]
theorem index_one_miss (c : UInt8) : ∀ l : List UInt8, l.dropWhile (· != c) = [] → Lib.index l [c] = -1
  | [], h => by simp [Lib.index]
  | x :: xs, h => by
    unfold Lib.index
    rw [List.dropWhile_cons] at h
    by_cases hx : x = c
    · subst hx
      simp at h
    · have hp : ([c] : List UInt8).isPrefixOf (x :: xs) = false := by simp [List.isPrefixOf, Ne.symm hx]
      have hb : (x != c) = true := by simpa using hx
      rw [if_pos hb] at h
      rw [hp, index_one_miss c xs h]
      simp
theorem take_drop_while (c : UInt8) : ∀ l : List UInt8, l.take (l.takeWhile (· != c)).length = l.takeWhile (· != c) ∧ l.drop (l.takeWhile (· != c)).length = l.dropWhile (· != c)
  | [] => ⟨rfl, rfl⟩
  | x :: xs => by
    have ih := take_drop_while c xs
    rw [List.takeWhile_cons, List.dropWhile_cons]
    split
    · exact ⟨by rw [List.length_cons, List.take_succ_cons, ih.1], by rw [List.length_cons, List.drop_succ_cons, ih.2]⟩
    · exact ⟨rfl, rfl⟩
/-- A text cut at the first byte c. -/
def cutT (c : UInt8) (l : List UInt8) : List UInt8 × List UInt8 × Bool :=
  match l.dropWhile (· != c) with
  | [] => (l.takeWhile (· != c), [], false)
  | _ :: r => (l.takeWhile (· != c), r, true)
theorem take_of_miss (c : UInt8) (l : List UInt8) (h : l.dropWhile (· != c) = []) : l.takeWhile (· != c) = l := by
  have := List.takeWhile_append_dropWhile (p := (· != c)) (l := l)
  rw [h, List.append_nil] at this
  exact this
theorem cut_one (c : UInt8) (l : List UInt8) : Lib.cut l [c] = cutT c l := by
  unfold Lib.cut cutT
  cases h : l.dropWhile (· != c) with
  | nil =>
    rw [index_one_miss c l h, if_neg (by omega), take_of_miss c l h]
  | cons x r =>
    have hne : l.dropWhile (· != c) ≠ [] := by rw [h]; simp
    have ht := take_drop_while c l
    rw [index_one_hit c l hne, if_pos (by omega)]
    simp only [Int.toNat_natCast, List.length_cons, List.length_nil, Prod.mk.injEq, and_true]
    refine ⟨ht.1, ?_⟩
    have h2 : l.drop ((l.takeWhile (· != c)).length + 1) = (l.drop (l.takeWhile (· != c)).length).drop 1 := by rw [List.drop_drop]
    exact h2.trans (by rw [ht.2, h]; rfl)
theorem splitT_cut (c : UInt8) : ∀ l : List UInt8, splitT c l = match l.dropWhile (· != c) with | [] => [l] | _ :: r => l.takeWhile (· != c) :: splitT c r
  | [] => rfl
  | x :: xs => by
    have ih := splitT_cut c xs
    rw [List.dropWhile_cons, List.takeWhile_cons, splitT]
    by_cases hx : x = c
    · subst hx
      simp
    · have hb : (x != c) = true := by simpa using hx
      rw [if_neg hx, if_pos hb, if_pos hb, ih]
      cases xs.dropWhile (· != c) <;> rfl
theorem drop_none (c : UInt8) : ∀ l : List UInt8, (∀ x ∈ l, x ≠ c) → l.dropWhile (· != c) = []
  | [], _ => rfl
  | x :: xs, h => by
    have hb : (x != c) = true := by simpa using h x (by simp)
    rw [List.dropWhile_cons, if_pos hb]
    exact drop_none c xs (fun y hy => h y (by simp [hy]))
theorem splitK_one (c : UInt8) : ∀ (k : Nat) (l : List UInt8), l.count c ≤ k → Lib.splitK [c] 0 k l = splitT c l
  | 0, l, h => by
    have hz : ∀ x ∈ l, x ≠ c := fun x hx hc => by
      have := List.count_pos_iff.2 (hc ▸ hx)
      omega
    have : l.dropWhile (· != c) = [] := drop_none c l hz
    rw [splitT_cut, this]
    rfl
  | k + 1, l, h => by
    rw [Lib.splitK, splitT_cut]
    cases hd : l.dropWhile (· != c) with
    | nil => rw [index_one_miss c l hd]; rfl
    | cons x r =>
      have hne : l.dropWhile (· != c) ≠ [] := by rw [hd]; simp
      have ht := take_drop_while c l
      have hx : x = c := by
        have h1 := List.head_dropWhile_not (p := (· != c)) (l := l) hne
        simp only [hd, List.head_cons] at h1
        simpa using h1
      subst hx
      rw [index_one_hit x l hne]
      have h1 : ((((l.takeWhile (· != x)).length : Nat) : Int) == -1) = false := by rw [beq_eq_false_iff_ne]; omega
      rw [h1, if_neg (by simp)]
      have h2 : l.drop ((((l.takeWhile (· != x)).length : Nat) : Int).toNat + [x].length) = r := by
        have h4 : l.drop ((l.takeWhile (· != x)).length + 1) = (l.drop (l.takeWhile (· != x)).length).drop 1 := by rw [List.drop_drop]
        exact h4.trans (by rw [ht.2, hd]; rfl)
      have h3 : r.count x ≤ k := by
        have := List.takeWhile_append_dropWhile (p := (· != x)) (l := l)
        rw [← this, hd, List.count_append, List.count_cons_self] at h
        omega
      rw [h2, splitK_one x k r h3, Nat.add_zero, Int.toNat_natCast, ht.1]
theorem splitB_one (c : UInt8) (s : ByteArray) : (Lib.splitB ⟨#[c]⟩ 0 (Lib.countB s ⟨#[c]⟩) s).map (·.data.toList) = splitT c s.data.toList := by
  rw [Lib.splitB_data]
  refine splitK_one c _ _ ?_
  have := Lib.count_one c s.data.toList
  unfold Lib.countB
  simp only [this]
  exact Nat.le_refl _
/-! ### Numbers -/
/-- The value of digits. -/
def natv (n : Nat) (r : List UInt8) : Nat := r.foldl (fun n c => 10 * n + (c.toNat - 48)) n
theorem natv_mono : ∀ (r : List UInt8) (a : Nat), a ≤ natv a r
  | [], a => Nat.le_refl _
  | c :: r, a => by
    show a ≤ natv (10 * a + (c.toNat - 48)) r
    have := natv_mono r (10 * a + (c.toNat - 48))
    omega
theorem digs_natv : ∀ (r : List UInt8) (n m : Nat), min n 2147483648 = min m 2147483648 → min (r.foldl dstep n) 2147483648 = min (natv m r) 2147483648
  | [], n, m, h => h
  | c :: r, n, m, h => by
    show min (r.foldl dstep (dstep n c)) _ = min (natv (10 * m + (c.toNat - 48)) r) _
    refine digs_natv r _ _ ?_
    unfold dstep
    omega
theorem dfold_le : ∀ (r : List UInt8) (n : Nat), n ≤ 2147483648 → r.foldl dstep n ≤ 2147483648
  | [], n, h => h
  | c :: r, n, h => dfold_le r _ (by unfold dstep; omega)
theorem digs_eq (r : List UInt8) : digs r = min (natv 0 r) 2147483648 := by
  have h1 := digs_natv r 0 0 rfl
  have h2 := dfold_le r 0 (by omega)
  unfold digs
  omega
theorem pu10 : ∀ (r : List UInt8) (a : Nat), r.all isDig = true → a < 18446744073709551616 → (Lib.parseUint10 a r = .ok (natv a r) ∧ natv a r < 18446744073709551616) ∨ (Lib.parseUint10 a r = .range ∧ 18446744073709551616 ≤ natv a r)
  | [], a, _, ha => Or.inl ⟨rfl, ha⟩
  | c :: r, a, h, ha => by
    simp only [List.all_cons, Bool.and_eq_true] at h
    have hc : 48 ≤ c.toNat ∧ c.toNat ≤ 57 := by have := h.1; simpa [isDig] using this
    have hn : natv a (c :: r) = natv (10 * a + (c.toNat - 48)) r := rfl
    have hm := natv_mono r (10 * a + (c.toNat - 48))
    simp only [Lib.parseUint10, if_pos hc, hn]
    by_cases h1 : 1844674407370955162 ≤ a
    · rw [if_pos h1]; exact Or.inr ⟨rfl, by omega⟩
    · rw [if_neg h1]
      by_cases h2 : 18446744073709551616 ≤ a * 10 + (c.toNat - 48)
      · rw [if_pos h2]; exact Or.inr ⟨rfl, by omega⟩
      · rw [if_neg h2, Nat.mul_comm a 10]
        exact pu10 r _ h.2 (by omega)
/-- What the program takes for the value of a number. -/
def valT (l : List UInt8) : Int := match Lib.atoiAll l with
  | .ok v => min (max v (-2147483648)) 2147483648
  | _ => 2147483648
theorem valT_ok {l : List UInt8} {v : Int} (h : Lib.atoiAll l = .ok v) : valT l = min (max v (-2147483648)) 2147483648 := by
  unfold valT
  generalize Lib.atoiAll l = r at h
  subst h
  rfl
theorem valT_no {l : List UInt8} (h : ∀ v, Lib.atoiAll l ≠ .ok v) : valT l = 2147483648 := by
  unfold valT
  generalize Lib.atoiAll l = r at h
  cases r with
  | ok v => exact absurd rfl (h v)
  | _ => rfl
/-- Two limited values: equal, or both too great. -/
def Alike (a b : Int) : Prop := a = b ∨ (a.natAbs = 2147483648 ∧ b.natAbs = 2147483648)
theorem num_parts {l : List UInt8} (h : (numT l).2 = true) :
    (l.head? = some 45 ∧ l.tail ≠ [] ∧ l.tail.all isDig = true ∧ (numT l).1 = -(digs l.tail : Int)) ∨ (l.head? ≠ some 45 ∧ l ≠ [] ∧ l.all isDig = true ∧ (numT l).1 = (digs l : Int)) := by
  unfold numT at h ⊢
  by_cases h0 : l.head? = some 45
  · simp only [if_pos h0] at h ⊢
    split at h
    · cases h
    · rename_i h1
      split at h
      · rename_i h2
        rw [if_neg h1, if_pos h2]
        exact Or.inl ⟨h0, fun e => h1 (Or.inl e), h2, rfl⟩
      · cases h
  · simp only [if_neg h0] at h ⊢
    split at h
    · cases h
    · rename_i h1
      split at h
      · rename_i h2
        rw [if_neg h1, if_pos h2]
        exact Or.inr ⟨h0, fun e => h1 (Or.inl e), h2, rfl⟩
      · cases h
theorem val_like {l : List UInt8} (h : (numT l).2 = true) : Alike (valT l) (numT l).1 := by
  rcases num_parts h with ⟨h0, h1, h2, h3⟩ | ⟨h0, h1, h2, h3⟩
  · cases l with
    | nil => simp at h0
    | cons c r =>
      simp only [List.head?_cons, Option.some.injEq] at h0
      subst h0
      simp only [List.tail_cons] at h1 h2 h3
      rw [h3, digs_eq]
      have hp := pu10 r 0 h2 (by omega)
      unfold valT Lib.atoiAll Lib.parseMag Alike
      simp only [show (45 : UInt8).toNat = 45 from rfl, or_true, if_true, if_neg h1]
      rcases hp with ⟨h4, h5⟩ | ⟨h4, h5⟩
      · rw [h4]
        simp only [not_true_eq_false, false_and, if_false, true_and]
        split <;> rename_i hh
        · split at hh
          · cases hh
          · injection hh with hh
            omega
        · split at hh
          · right; omega
          · exact absurd rfl (hh _)
      · rw [h4]
        simp only []
        right; omega
  · cases l with
    | nil => exact absurd rfl h1
    | cons c r =>
      have h2' := h2
      simp only [List.all_cons, Bool.and_eq_true] at h2'
      have hc : 48 ≤ c.toNat ∧ c.toNat ≤ 57 := by have := h2'.1; simpa [isDig] using this
      rw [h3, digs_eq]
      have hp := pu10 (c :: r) 0 h2 (by omega)
      unfold valT Lib.atoiAll Lib.parseMag Alike
      have hn1 : ¬ (c.toNat = 43 ∨ c.toNat = 45) := by omega
      have hn2 : ¬ (c.toNat = 45) := by omega
      simp only [if_neg hn1, if_neg h1]
      rcases hp with ⟨h4, h5⟩ | ⟨h4, h5⟩
      · rw [h4]
        simp only [hn2, not_false_eq_true, true_and, false_and, if_false]
        split <;> rename_i hh
        · split at hh
          · cases hh
          · injection hh with hh
            omega
        · split at hh
          · right; omega
          · exact absurd rfl (hh _)
      · rw [h4]
        simp only []
        right; omega
/-! ### The program's steps -/
/-- A factor, as the program keeps it: name, exponent, whether it is powered. -/
structure PF where
  u : List UInt8
  x : List UInt8
  g : Bool
def pfacT (s : List UInt8) : Option PF :=
  let c := cutT 94 s
  if lets c.1 = false ∨ (c.2.2 = true ∧ (numT c.2.1).2 = false) then none else some ⟨c.1, c.2.1, c.2.2⟩
def pfacsT : List (List UInt8) → Option (List PF)
  | [] => some []
  | s :: ss => match pfacT s with
    | none => none
    | some f => (pfacsT ss).map (f :: ·)
def psplT (l : List UInt8) : Option (List UInt8 × List PF) :=
  let c := cutT 32 l
  if (numT c.1).2 = false then none
  else if c.2.2 = false then some (c.1, [])
  else (pfacsT (splitT 42 c.2.1)).map fun fs => (c.1, fs)
def pmeanT (f : PF) : Dm × Int × Int :=
  let k := lookT f.u
  if k.2.2 = false then (.zero, 0, 10)
  else if f.g = false then (k.1, k.2.1, 0)
  else if k.2.1 ≠ 1 then (.zero, 0, 10)
  else if valT f.x = 0 ∨ valT f.x < -8 ∨ 8 < valT f.x then (.zero, 0, 5)
  else (k.1.raised (valT f.x), k.2.1, 0)
def pfold : List PF → Qt → Except Int Qt
  | [], q => .ok q
  | f :: fs, q =>
    if (pmeanT f).2.2 ≠ 0 then .error (pmeanT f).2.2
    else pfold fs ⟨scaled q.n (pmeanT f).2.1, q.m.times (pmeanT f).1⟩
def pparseT (l : List UInt8) : Qt × Int :=
  if 100 < l.length then (.zero, 2)
  else match psplT l with
    | none => (.zero, 7)
    | some (n, fs) => match pfold fs ⟨valT n, .zero⟩ with
      | .error e => (.zero, e)
      | .ok q => chk q
/-- The specification's factor of the program's. -/
def facOf (f : PF) : Fac := ⟨f.u, if f.g = true then (numT f.x).1 else 1, f.g⟩
/-- Its exponent is a number. -/
def PF.good (f : PF) : Prop := f.g = true → (numT f.x).2 = true
theorem dig_94 {r : List UInt8} (h : r.all isDig = true) : ∀ x ∈ r, x ≠ 94 := fun x hx e => by
  have := List.all_eq_true.1 h x hx
  subst e
  exact absurd this (by decide)
theorem num_94 {l : List UInt8} (h : (numT l).2 = true) : ∀ x ∈ l, x ≠ 94 := by
  rcases num_parts h with ⟨h0, h1, h2, h3⟩ | ⟨h0, h1, h2, h3⟩
  · cases l with
    | nil => simp at h0
    | cons c r =>
      simp only [List.head?_cons, Option.some.injEq] at h0
      subst h0
      intro x hx
      rcases List.mem_cons.1 hx with rfl | hx
      · decide
      · exact dig_94 h2 x hx
  · exact dig_94 h2
theorem dw_nil (c : UInt8) : ∀ l : List UInt8, l.dropWhile (· != c) = [] → ∀ x ∈ l, x ≠ c
  | [], _, x, hx => by cases hx
  | y :: ys, h, x, hx => by
    rw [List.dropWhile_cons] at h
    by_cases hy : (y != c) = true
    · rw [if_pos hy] at h
      rcases List.mem_cons.1 hx with rfl | hx
      · simpa using hy
      · exact dw_nil c ys h x hx
    · rw [if_neg hy] at h
      cases h
theorem split_94 (c : UInt8) (l : List UInt8) : (splitT c l = [l] ∧ ∀ x ∈ l, x ≠ c) ∨ ((∃ a b r, splitT c l = a :: b :: r) ∧ ¬ ∀ x ∈ l, x ≠ c) := by
  by_cases h : ∀ x ∈ l, x ≠ c
  · exact Or.inl ⟨splitT_none h, h⟩
  · refine Or.inr ⟨?_, h⟩
    rw [splitT_cut]
    cases hd : l.dropWhile (· != c) with
    | nil =>
      exfalso
      exact h (dw_nil c l hd)
    | cons y r =>
      cases hs : splitT c r with
      | nil => exact absurd hs (splitT_ne c r)
      | cons b t =>
        refine ⟨l.takeWhile (· != c), b, t, ?_⟩
        show _ :: splitT c r = _
        rw [hs]
theorem fac_pfac (s : List UInt8) : facT s = (pfacT s).map facOf := by
  unfold facT pfacT cutT
  rw [splitT_cut]
  cases hd : s.dropWhile (· != 94) with
  | nil =>
    simp only []
    rw [take_of_miss 94 s hd]
    cases h : lets s <;> simp [facOf]
  | cons y r =>
    simp only []
    rcases split_94 94 r with ⟨h1, h2⟩ | ⟨⟨a, b, t, h1⟩, h2⟩
    · rw [h1]
      cases h : lets (s.takeWhile (· != 94)) <;> cases h3 : (numT r).2 <;> simp [facOf, h, h3]
    · rw [h1]
      have h3 : (numT r).2 = false := by
        cases h3 : (numT r).2
        · rfl
        · exact absurd (num_94 h3) h2
      simp [h3]
theorem pfac_good {s : List UInt8} {f : PF} (h : pfacT s = some f) : f.good := by
  unfold pfacT at h
  dsimp only at h
  split at h
  · cases h
  · rename_i hh
    injection h with h
    subst h
    intro hg
    cases h3 : (numT (cutT 94 s).2.1).2
    · exact absurd (Or.inr ⟨hg, h3⟩) hh
    · rfl
theorem facs_pfacs : ∀ l : List (List UInt8), facsT l = (pfacsT l).map (List.map facOf)
  | [] => rfl
  | s :: ss => by
    unfold facsT pfacsT
    rw [fac_pfac]
    cases h : pfacT s with
    | none => rfl
    | some f =>
      simp only [Option.map_some]
      rw [facs_pfacs ss]
      cases pfacsT ss <;> rfl
theorem pfacs_good : ∀ (l : List (List UInt8)) (fs : List PF), pfacsT l = some fs → ∀ f ∈ fs, f.good
  | [], fs, h => by injection h with h; subst h; simp
  | s :: ss, fs, h => by
    unfold pfacsT at h
    cases h1 : pfacT s with
    | none => rw [h1] at h; cases h
    | some f =>
      rw [h1] at h
      simp only [] at h
      cases h2 : pfacsT ss with
      | none => rw [h2] at h; cases h
      | some r =>
        rw [h2] at h
        injection h with h
        subst h
        intro g hg
        rcases List.mem_cons.1 hg with rfl | hg
        · exact pfac_good h1
        · exact pfacs_good ss r h2 g hg
theorem form_pspl (l : List UInt8) : formT l = (psplT l).map fun p => ((numT p.1).1, p.2.map facOf) := by
  unfold formT psplT cutT
  cases hd : l.dropWhile (· != 32) with
  | nil =>
    simp only []
    cases h : (numT (l.takeWhile (· != 32))).2 <;> simp
  | cons y r =>
    simp only []
    cases h : (numT (l.takeWhile (· != 32))).2
    · simp
    · simp only [if_true, Bool.true_eq_false, if_false]
      rw [facs_pfacs]
      cases pfacsT (splitT 42 r) <;> rfl
theorem pspl_good {l : List UInt8} {n : List UInt8} {fs : List PF} (h : psplT l = some (n, fs)) : (numT n).2 = true ∧ ∀ f ∈ fs, f.good := by
  unfold psplT at h
  simp only [] at h
  split at h
  · cases h
  · rename_i h1
    have h1' : (numT (cutT 32 l).1).2 = true := by simpa using h1
    split at h
    · injection h with h
      injection h with h2 h3
      subst h2; subst h3
      exact ⟨h1', by simp⟩
    · cases h2 : pfacsT (splitT 42 (cutT 32 l).2.1) with
      | none => rw [h2] at h; cases h
      | some gs =>
        rw [h2] at h
        injection h with h
        injection h with h3 h4
        subst h3; subst h4
        exact ⟨h1', pfacs_good _ _ h2⟩
theorem ite_any {α : Type} {P : α → Prop} {c : Prop} [Decidable c] {a b : α} (ha : P a) (hb : P b) : P (if c then a else b) := by
  split
  · exact ha
  · exact hb
def LookOk (k : Dm × Int × Bool) : Prop := k.2.2 = false ∨ (1 ≤ k.2.1 ∧ k.2.1 ≤ 3600)
theorem look_size (u : List UInt8) (h : (lookT u).2.2 = true) : 1 ≤ (lookT u).2.1 ∧ (lookT u).2.1 ≤ 3600 := by
  have h1 : LookOk (lookT u) := by
    unfold lookT
    repeat (refine ite_any (P := LookOk) (by unfold LookOk; decide) ?_)
    unfold LookOk
    decide
  rcases h1 with h1 | h1
  · rw [h1] at h; cases h
  · exact h1
theorem big_mul {n k : Int} (h : n.natAbs = 2147483648) (hk : 1 ≤ k) : (scaled n k).natAbs = 2147483648 := by
  unfold scaled
  have h1 : n = 2147483648 ∨ n = -2147483648 := by omega
  rcases h1 with rfl | rfl
  · have : 2147483648 ≤ 2147483648 * k := by omega
    omega
  · have : -2147483648 * k ≤ -2147483648 := by omega
    omega
theorem scaled_like {a b k : Int} (h : Alike a b) (hk : 1 ≤ k) : Alike (scaled a k) (scaled b k) := by
  rcases h with rfl | ⟨h1, h2⟩
  · exact Or.inl rfl
  · exact Or.inr ⟨big_mul h1 hk, big_mul h2 hk⟩
theorem raised_one (m : Dm) : m.raised 1 = m := by
  unfold Dm.raised
  simp only [Int.one_mul]
theorem step_like (f : PF) (hf : f.good) (m : Dm) {a b : Int} (h : Alike a b) :
    ((pmeanT f).2.2 ≠ 0 ∧ facStep ⟨b, m⟩ (facOf f) = .error (pmeanT f).2.2) ∨ ((pmeanT f).2.2 = 0 ∧ ∃ b', facStep ⟨b, m⟩ (facOf f) = .ok ⟨b', m.times (pmeanT f).1⟩ ∧ Alike (scaled a (pmeanT f).2.1) b') := by
  unfold facStep pmeanT facOf
  simp only []
  cases hl : (lookT f.u).2.2
  · simp
  · have hk := (look_size f.u hl).1
    simp only [Bool.true_eq_false, if_false, false_or]
    cases hg : f.g
    · right
      simp only [Bool.false_eq_true, false_and, if_false, if_true]
      refine ⟨trivial, scaled b (lookT f.u).2.1, ?_, scaled_like h hk⟩
      rw [if_neg (by decide), raised_one]
    · simp only [Bool.true_eq_false, if_false, true_and, if_true]
      by_cases h1 : (lookT f.u).2.1 ≠ 1
      · left
        simp [h1]
      · simp only [if_neg h1]
        have hv := val_like (hf hg)
        have hiff : (valT f.x = 0 ∨ valT f.x < -8 ∨ 8 < valT f.x) ↔ ((numT f.x).1 = 0 ∨ (numT f.x).1 < -8 ∨ 8 < (numT f.x).1) := by
          rcases hv with hv | hv
          · rw [hv]
          · omega
        by_cases h2 : (valT f.x = 0 ∨ valT f.x < -8 ∨ 8 < valT f.x)
        · left
          simp only [if_pos h2, if_pos (hiff.1 h2)]
          simp
        · right
          have h3 : ¬ ((numT f.x).1 = 0 ∨ (numT f.x).1 < -8 ∨ 8 < (numT f.x).1) := fun e => h2 (hiff.2 e)
          have h3' : ¬ ((numT f.x).1 = 0) ∧ ¬ ((numT f.x).1 < -8 ∨ 8 < (numT f.x).1) := by omega
          have he : valT f.x = (numT f.x).1 := by
            rcases hv with hv | hv
            · exact hv
            · omega
          simp only [if_neg h2, if_neg h3]
          exact ⟨trivial, _, by rw [he], scaled_like h hk⟩
theorem fold_like : ∀ (fs : List PF), (∀ f ∈ fs, f.good) → ∀ (m : Dm) (a b : Int), Alike a b →
    (∃ e, pfold fs ⟨a, m⟩ = .error e ∧ facFold (fs.map facOf) ⟨b, m⟩ = .error e) ∨ (∃ a' b' m', pfold fs ⟨a, m⟩ = .ok ⟨a', m'⟩ ∧ facFold (fs.map facOf) ⟨b, m⟩ = .ok ⟨b', m'⟩ ∧ Alike a' b')
  | [], _, m, a, b, h => Or.inr ⟨a, b, m, rfl, rfl, h⟩
  | f :: fs, hg, m, a, b, h => by
    rcases step_like f (hg f (by simp)) m h with ⟨h1, h2⟩ | ⟨h1, b', h2, h3⟩
    · left
      refine ⟨(pmeanT f).2.2, ?_, ?_⟩
      · rw [pfold, if_pos h1]
      · rw [List.map_cons, facFold, h2]
    · rw [List.map_cons, facFold, h2, pfold, if_neg (fun e => e h1)]
      exact fold_like fs (fun g hh => hg g (by simp [hh])) _ _ _ h3
theorem chk_big {q : Qt} (h : q.n.natAbs = 2147483648) : chk q = (.zero, 5) := by
  unfold chk
  rw [if_neg]
  intro hv
  have := hv.1
  omega
theorem pparse_eq (l : List UInt8) : pparseT l = parseT l := by
  unfold pparseT parseT
  rw [form_pspl]
  by_cases h : 100 < l.length
  · rw [if_pos h, if_pos h]
  · rw [if_neg h, if_neg h]
    cases hp : psplT l with
    | none => rfl
    | some p =>
      obtain ⟨n, fs⟩ := p
      obtain ⟨h1, h2⟩ := pspl_good hp
      simp only [Option.map_some]
      rcases fold_like fs h2 .zero _ _ (val_like h1) with ⟨e, h3, h4⟩ | ⟨a, b, m, h3, h4, h5⟩
      · rw [h3, h4]
      · rw [h3, h4]
        rcases h5 with rfl | ⟨h6, h7⟩
        · rfl
        · simp only []
          rw [chk_big (q := ⟨a, m⟩) h6, chk_big (q := ⟨b, m⟩) h7]
end U
end Go.Proofs.YthcehhonahgfmaaDoor
