/-
  What Parse says of a text: numbers, factors, units; that what Print says is parsed as the quantity.
-/
import Derived.Test.YthcehhonahgfmaaDoorUText
import Derived.Test.YthcehhonahgfmaaDoorULook
namespace Go.Proofs.YthcehhonahgfmaaDoor
namespace U
set_option linter.unusedVariables false

def isLet (c : UInt8) : Bool := (97 ≤ c.toNat && c.toNat ≤ 122) || (65 ≤ c.toNat && c.toNat ≤ 90)
def isDig (c : UInt8) : Bool := 48 ≤ c.toNat && c.toNat ≤ 57
def dstep (n : Nat) (c : UInt8) : Nat := min (10 * n + (c.toNat - 48)) 2147483648
def digs (r : List UInt8) : Nat := r.foldl dstep 0
/-- The value of a number, limited, and whether the text is one. -/
def numT (l : List UInt8) : Int × Bool :=
  let r := if l.head? = some 45 then l.tail else l
  if r = [] ∨ (r.head? = some 48 ∧ 1 < l.length) then (0, false)
  else if r.all isDig then (if l.head? = some 45 then -(digs r : Int) else (digs r : Int), true) else (0, false)
/-- The parts of a text between the bytes c. -/
def splitT (c : UInt8) : List UInt8 → List (List UInt8)
  | [] => [[]]
  | x :: xs => if x = c then [] :: splitT c xs else match splitT c xs with
    | [] => [[x]]
    | p :: ps => (x :: p) :: ps
structure Fac where
  u : List UInt8
  e : Int
  g : Bool
def lets (u : List UInt8) : Bool := u.all isLet && !u.isEmpty
def facT (s : List UInt8) : Option Fac :=
  match splitT 94 s with
  | [u] => if lets u then some ⟨u, 1, false⟩ else none
  | [u, e] => if lets u && (numT e).2 then some ⟨u, (numT e).1, true⟩ else none
  | _ => none
def facsT : List (List UInt8) → Option (List Fac)
  | [] => some []
  | s :: ss => match facT s with
    | none => none
    | some f => (facsT ss).map (f :: ·)
/-- The number and the factors of a text. -/
def formT (l : List UInt8) : Option (Int × List Fac) :=
  let n := numT (l.takeWhile (· != 32))
  if n.2 then
    match l.dropWhile (· != 32) with
    | [] => some (n.1, [])
    | _ :: r => (facsT (splitT 42 r)).map fun fs => (n.1, fs)
  else none
def scaled (n k : Int) : Int := max (min (n * k) 2147483648) (-2147483648)
def facStep (q : Qt) (f : Fac) : Except Int Qt :=
  if (lookT f.u).2.2 = false ∨ (f.g = true ∧ (lookT f.u).2.1 ≠ 1) then .error 10
  else if f.e = 0 ∨ f.e < -8 ∨ 8 < f.e then .error 5
  else .ok ⟨scaled q.n (lookT f.u).2.1, q.m.times ((lookT f.u).1.raised f.e)⟩
def facFold : List Fac → Qt → Except Int Qt
  | [], q => .ok q
  | f :: fs, q => match facStep q f with
    | .error e => .error e
    | .ok q => facFold fs q
/-- What Parse says of a text. -/
def parseT (l : List UInt8) : Qt × Int :=
  if 100 < l.length then (.zero, 2)
  else match formT l with
    | none => (.zero, 7)
    | some (n, fs) => match facFold fs ⟨n, .zero⟩ with
      | .error e => (.zero, e)
      | .ok q => chk q
theorem ex_kJ : parseT [53, 32, 107, 74] = (⟨5000, ⟨1, 0, 0, 0, 0⟩⟩, 0) := by decide +kernel
theorem ex_kWh : parseT [50, 32, 107, 87, 42, 104] = (⟨7200000, ⟨1, 0, 0, 0, 0⟩⟩, 0) := by decide +kernel
theorem ex_kJ2 : (parseT [53, 32, 107, 74, 94, 50]).2 = 10 := by decide +kernel
theorem ex_05J : (parseT [48, 53, 32, 74]).2 = 7 := by decide +kernel

/-! ### What is printed is parsed -/

theorem splitT_ne (c : UInt8) : ∀ l, splitT c l ≠ []
  | [] => by simp [splitT]
  | x :: xs => by
    unfold splitT
    split
    · simp
    · split <;> simp
theorem splitT_none {c : UInt8} : ∀ {l : List UInt8}, (∀ x ∈ l, x ≠ c) → splitT c l = [l]
  | [], _ => rfl
  | x :: xs, h => by
    have h1 := splitT_none (c := c) (l := xs) (fun y hy => h y (by simp [hy]))
    unfold splitT
    rw [if_neg (h x (by simp)), h1]
theorem splitT_app {c : UInt8} : ∀ {l : List UInt8} (r : List UInt8), (∀ x ∈ l, x ≠ c) → splitT c (l ++ c :: r) = l :: splitT c r
  | [], r, _ => by
    show splitT c (c :: r) = _
    rw [splitT, if_pos rfl]
  | x :: xs, r, h => by
    have h1 := splitT_app (c := c) (l := xs) r (fun y hy => h y (by simp [hy]))
    show splitT c (x :: (xs ++ c :: r)) = _
    rw [splitT, if_neg (h x (by simp)), h1]
/-- A factor's text. -/
def fac (j : Nat) (e : Int) : List UInt8 := if e = 1 then base j else base j ++ 94 :: Lib.itoa e
def pcs : List (Nat × Int) → List (List UInt8)
  | [] => []
  | (j, e) :: r => if e = 0 then pcs r else fac j e :: pcs r
def joinT : List (List UInt8) → List UInt8
  | [] => []
  | [p] => p
  | p :: q :: r => p ++ 42 :: joinT (q :: r)
theorem joinT_snoc : ∀ (ps : List (List UInt8)) (q : List UInt8), (∀ p ∈ ps, p ≠ []) → joinT (ps ++ [q]) = (if joinT ps = [] then [] else joinT ps ++ [42]) ++ q
  | [], q, _ => rfl
  | [p], q, h => by
    have hp := h p (by simp)
    show p ++ 42 :: q = (if p = [] then [] else p ++ [42]) ++ q
    rw [if_neg hp, List.append_assoc]
    rfl
  | p :: p2 :: r, q, h => by
    have ih := joinT_snoc (p2 :: r) q (fun x hx => h x (by simp at hx ⊢; right; exact hx))
    have hp2 := h p2 (by simp)
    have hj : joinT (p2 :: r) ≠ [] := by
      cases r with
      | nil => exact hp2
      | cons a b => show p2 ++ 42 :: joinT (a :: b) ≠ []; simp
    have hj2 : joinT (p :: p2 :: r) ≠ [] := by show p ++ 42 :: joinT (p2 :: r) ≠ []; simp
    rw [if_neg hj] at ih
    rw [if_neg hj2]
    show p ++ 42 :: joinT ((p2 :: r) ++ [q]) = (p ++ 42 :: joinT (p2 :: r) ++ [42]) ++ q
    rw [ih]
    simp
theorem splitT_join : ∀ (ps : List (List UInt8)), ps ≠ [] → (∀ p ∈ ps, ∀ x ∈ p, x ≠ 42) → splitT 42 (joinT ps) = ps
  | [], h, _ => absurd rfl h
  | [p], _, h => splitT_none (h p (by simp))
  | p :: q :: r, _, h => by
    show splitT 42 (p ++ 42 :: joinT (q :: r)) = _
    rw [splitT_app _ (h p (by simp)), splitT_join (q :: r) (by simp) (fun x hx => h x (by simp at hx ⊢; right; exact hx))]
theorem itoa8 : ∀ e : Fin 17, Lib.itoa ((e.val : Int) - 8) = (if (e.val : Int) - 8 < 0 then [45, UInt8.ofNat (48 + (8 - e.val))] else [UInt8.ofNat (48 + (e.val - 8))]) := by
  intro e
  have h10 : ((e.val : Int) - 8).natAbs < 10 := by omega
  unfold Lib.itoa
  by_cases h : (e.val : Int) - 8 < 0
  · rw [if_pos h, if_pos h, Lib.decDigits_one h10]
    have : ((e.val : Int) - 8).natAbs = 8 - e.val := by omega
    rw [this]
  · have h2 : ((e.val : Int) - 8).toNat = e.val - 8 := by omega
    rw [if_neg h, if_neg h, h2, Lib.decDigits_one (by omega)]
/-- The factor's text, by its exponent from -8 to 8, in a form that reckons. -/
def fac8 (j e : Nat) : List UInt8 := if e = 9 then base j else base j ++ 94 :: (if e < 8 then [45, UInt8.ofNat (48 + (8 - e))] else [UInt8.ofNat (48 + (e - 8))])
theorem fac_8 (j : Nat) (e : Fin 17) : fac j ((e.val : Int) - 8) = fac8 j e.val := by
  unfold fac fac8
  rw [itoa8]
  by_cases h : e.val = 9
  · rw [if_pos (by omega), if_pos h]
  · rw [if_neg (by omega), if_neg h]
    by_cases h2 : e.val < 8
    · rw [if_pos (by omega), if_pos h2]
    · rw [if_neg (by omega), if_neg h2]
theorem fac_facts : ∀ (j : Fin 5) (e : Fin 17), e.val ≠ 8 → (facT (fac8 j.val e.val)).map (fun f => (f.u, f.e)) = some (base j.val, (e.val : Int) - 8) ∧ (fac8 j.val e.val).all (· != 42) = true ∧ (fac8 j.val e.val).length ≤ 6 ∧ fac8 j.val e.val ≠ [] := by decide +kernel
theorem fac_ok (j : Nat) (e : Int) (hj : j < 5) (he : -8 ≤ e ∧ e ≤ 8) (h0 : e ≠ 0) : (∃ g, facT (fac j e) = some ⟨base j, e, g⟩) ∧ (∀ x ∈ fac j e, x ≠ 42) ∧ (fac j e).length ≤ 6 ∧ fac j e ≠ [] := by
  obtain ⟨i, hi⟩ : ∃ i : Fin 17, (i.val : Int) - 8 = e := ⟨⟨(e + 8).toNat, by omega⟩, by show (((e + 8).toNat : Nat) : Int) - 8 = e; omega⟩
  subst hi
  have h := fac_facts ⟨j, hj⟩ i (by omega)
  rw [fac_8]
  refine ⟨?_, fun x hx => by have := List.all_eq_true.1 h.2.1 x hx; simpa using this, h.2.2.1, h.2.2.2⟩
  have h1 := h.1
  cases hf : facT (fac8 j i.val) with
  | none => rw [hf] at h1; cases h1
  | some f =>
    rw [hf] at h1
    simp only [Option.map_some, Option.some.injEq, Prod.mk.injEq] at h1
    obtain ⟨u, e, g⟩ := f
    obtain ⟨rfl, rfl⟩ := h1
    exact ⟨g, rfl⟩
end U
end Go.Proofs.YthcehhonahgfmaaDoor
