/-
  Sequences of values: written and read back, cut short, read canonically; plain mathematics.
-/
import Derived.Test.YtlmbpbhdbgadjaaWMath
namespace Go.Proofs.Ytlmbpbhdbgadjaa
namespace W

/-- A reader: the bytes that are left, and the first error (0: none). -/
abbrev St := List Int × Int

def rU (s : St) : St × Nat :=
  if s.2 ≠ 0 then (s, 0) else match rd 0 s.1 with
    | .ok (n, r) => ((r, 0), n)
    | .error e => ((s.1, e), 0)
def rI (s : St) : St × Int := ((rU s).1, zag (rU s).2)
def rS (s : St) (most : Int) : St × Nat :=
  if (rU s).1.2 ≠ 0 then ((rU s).1, 0) else if most < (rU s).2 then (((rU s).1.1, 2), 0) else rU s
def rB (s : St) (most : Int) : St × List Int :=
  if (rS s most).1.2 ≠ 0 then ((rS s most).1, []) else if (rS s most).1.1.length < (rS s most).2 then (((rS s most).1.1, 6), [])
    else (((rS s most).1.1.drop (rS s most).2, 0), (rS s most).1.1.take (rS s most).2)
def rN (s : St) : Nat → St × List Int
  | 0 => (s, [])
  | n + 1 => if (rI s).1.2 ≠ 0 then ((rI s).1, []) else ((rN (rI s).1 n).1, (rI s).2 :: (rN (rI s).1 n).2)
def rL (s : St) (most : Int) : St × List Int :=
  if (rN (rS s most).1 (rS s most).2).1.2 ≠ 0 then ((rN (rS s most).1 (rS s most).2).1, []) else rN (rS s most).1 (rS s most).2
def endOf (s : St) : Int := if s.2 = 0 ∧ s.1 ≠ [] then 7 else s.2

theorem rU_err {s : St} (h : s.2 ≠ 0) : rU s = (s, 0) := by rw [rU, if_pos h]
theorem rU_ok {bs : List Int} {n : Nat} {r : List Int} (h : rd 0 bs = .ok (n, r)) : rU (bs, 0) = ((r, 0), n) := by
  rw [rU, if_neg (by simp), h]
theorem rU_no {bs : List Int} {e : Int} (h : rd 0 bs = .error e) : rU (bs, 0) = ((bs, e), 0) := by
  rw [rU, if_neg (by simp), h]
theorem rI_err {s : St} (h : s.2 ≠ 0) : rI s = (s, 0) := by simp [rI, rU_err h, zag]
theorem rS_err {s : St} (h : s.2 ≠ 0) (m : Int) : rS s m = (s, 0) := by rw [rS, rU_err h, if_pos h]
theorem rB_err {s : St} (h : s.2 ≠ 0) (m : Int) : rB s m = (s, []) := by rw [rB, rS_err h, if_pos h]
theorem rN_err {s : St} (h : s.2 ≠ 0) (n : Nat) : (rN s n).1 = s := by
  cases n with
  | zero => rfl
  | succ n => rw [rN, rI_err h, if_pos h]
theorem rL_err {s : St} (h : s.2 ≠ 0) (m : Int) : rL s m = (s, []) := by rw [rL, rS_err h, rN, if_pos h]

/-- A value to write or to read. -/
inductive Val where
  | u (n : Nat)
  | i (n : Int)
  | b (bs : List Int)
  | l (zs : List Int)

def encL (zs : List Int) : List Int := zs.flatMap fun z => encU (zig z)
def enc : Val → List Int
  | .u n => encU n
  | .i n => encU (zig n)
  | .b bs => encU bs.length ++ bs
  | .l zs => encU zs.length ++ encL zs
/-- The value fits its Go type; lengths are those that memory allows. -/
def Fit : Val → Prop
  | .u n => n < 18446744073709551616
  | .i n => -9223372036854775808 ≤ n ∧ n ≤ 9223372036854775807
  | .b bs => bs.length < 9223372036854775808
  | .l zs => zs.length < 9223372036854775808 ∧ ∀ z ∈ zs, -9223372036854775808 ≤ z ∧ z ≤ 9223372036854775807
def size : Val → Int
  | .b bs => bs.length
  | .l zs => zs.length
  | _ => 0
/-- Reading a value of the same kind, with a limit. -/
def rV (s : St) (most : Int) : Val → St × Val
  | .u _ => ((rU s).1, .u (rU s).2)
  | .i _ => ((rI s).1, .i (rI s).2)
  | .b _ => ((rB s most).1, .b (rB s most).2)
  | .l _ => ((rL s most).1, .l (rL s most).2)

theorem rN_enc : ∀ (zs rest : List Int), (∀ z ∈ zs, -9223372036854775808 ≤ z ∧ z ≤ 9223372036854775807) → rN (encL zs ++ rest, 0) zs.length = ((rest, 0), zs)
  | [], rest, _ => rfl
  | z :: zs, rest, h => by
    have hz := zig_lt (h z (by simp))
    have e : encL (z :: zs) ++ rest = encU (zig z) ++ (encL zs ++ rest) := by simp [encL]
    have h1 : rI (encL (z :: zs) ++ rest, 0) = ((encL zs ++ rest, 0), z) := by
      rw [rI, e, rU_ok (rd_enc0 hz _)]
      simp [zag_zig]
    rw [List.length_cons, rN, h1, if_neg (by simp), rN_enc zs rest (fun x hx => h x (by simp [hx]))]

theorem rS_enc {n : Nat} (hn : n < 18446744073709551616) (rest : List Int) {m : Int} (hm : (n : Int) ≤ m) : rS (encU n ++ rest, 0) m = ((rest, 0), n) := by
  rw [rS, rU_ok (rd_enc0 hn rest), if_neg (by simp), if_neg (by simp; omega)]

/-- What was written is read back, with a limit that is not below the length. -/
theorem rV_enc (v : Val) (hv : Fit v) (rest : List Int) : rV (enc v ++ rest, 0) (size v) v = ((rest, 0), v) := by
  cases v with
  | u n => simp only [rV, enc, rU_ok (rd_enc0 hv rest)]
  | i n => simp only [rV, rI, enc, rU_ok (rd_enc0 (zig_lt hv) rest), zag_zig]
  | b bs =>
    have h : rS (enc (.b bs) ++ rest, 0) (size (.b bs)) = ((bs ++ rest, 0), bs.length) := by
      show rS (encU bs.length ++ bs ++ rest, 0) _ = _
      rw [List.append_assoc]
      exact rS_enc (by have : bs.length < 9223372036854775808 := hv; omega) _ (Int.le_refl _)
    simp only [rV, rB, h]
    simp
    rw [if_neg (by omega)]
    exact ⟨rfl, rfl⟩
  | l zs =>
    have h : rS (enc (.l zs) ++ rest, 0) (size (.l zs)) = ((encL zs ++ rest, 0), zs.length) := by
      show rS (encU zs.length ++ encL zs ++ rest, 0) _ = _
      rw [List.append_assoc]
      exact rS_enc (by have := hv.1; omega) _ (Int.le_refl _)
    simp only [rV, rL, h, rN_enc zs rest hv.2]
    simp

/-- An error stays. -/
theorem rV_err {s : St} (h : s.2 ≠ 0) (m : Int) (v : Val) : (rV s m v).1 = s := by
  cases v <;> simp only [rV, rU_err h, rI_err h, rB_err h, rL_err h]
/-- The zero value of a kind. -/
def zero : Val → Val
  | .u _ => .u 0
  | .i _ => .i 0
  | .b _ => .b []
  | .l _ => .l []
theorem rV_zero {s : St} (h : s.2 ≠ 0) (m : Int) (v : Val) : (rV s m v).2 = zero v := by
  cases v <;> simp only [rV, zero, rU_err h, rI_err h, rB_err h, rL_err h]

/-! ### cut short -/

theorem rd_cut0 {n : Nat} (hn : n < 18446744073709551616) {p q : List Int} (h : encU n = p ++ q) (hq : q ≠ []) : rd 0 p = .error 6 :=
  rd_cut 9 0 n p q rfl (by have : (2 : Nat) * 128 ^ 9 = 18446744073709551616 := by decide
                           omega) (by omega) h hq

/-- A list that begins both ways: one part begins the other. -/
theorem split_two {a b p q : List Int} (h : a ++ b = p ++ q) : (∃ r, r ≠ [] ∧ a = p ++ r) ∨ (∃ r, p = a ++ r ∧ b = r ++ q) := by
  rcases List.append_eq_append_iff.1 h with ⟨r, h1, h2⟩ | ⟨r, h1, h2⟩
  · exact .inr ⟨r, h1, h2⟩
  · by_cases hr : r = []
    · subst hr
      exact .inr ⟨[], by simpa using h1.symm, by simpa using h2.symm⟩
    · exact .inl ⟨r, hr, h1⟩

theorem rN_cut : ∀ (zs p q : List Int), (∀ z ∈ zs, -9223372036854775808 ≤ z ∧ z ≤ 9223372036854775807) → encL zs = p ++ q → q ≠ [] → (rN (p, 0) zs.length).1.2 = 6
  | [], p, q, _, h, hq => by
    simp [encL] at h
    exact absurd h.2 hq
  | z :: zs, p, q, hz, h, hq => by
    have hz0 := zig_lt (hz z (by simp))
    have e : encU (zig z) ++ encL zs = p ++ q := by rw [← h]; simp [encL]
    rcases split_two e with ⟨r, hr, hp⟩ | ⟨r, hp, hb⟩
    · rw [List.length_cons, rN, rI, rU_no (rd_cut0 hz0 hp hr), if_pos (by simp)]
    · subst hp
      have h1 : rI (encU (zig z) ++ r, 0) = ((r, 0), z) := by
        rw [rI, rU_ok (rd_enc0 hz0 _)]
        simp [zag_zig]
      rw [List.length_cons, rN, h1, if_neg (by simp)]
      exact rN_cut zs r q (fun x hx => hz x (by simp [hx])) hb hq

theorem rV_cut (v : Val) (hv : Fit v) {p q : List Int} (h : enc v = p ++ q) (hq : q ≠ []) : (rV (p, 0) (size v) v).1.2 = 6 := by
  cases v with
  | u n => simp only [rV, rU_no (rd_cut0 hv h hq)]
  | i n => simp only [rV, rI, rU_no (rd_cut0 (zig_lt hv) h hq)]
  | b bs =>
    have hn : bs.length < 18446744073709551616 := by have : bs.length < 9223372036854775808 := hv; omega
    rcases split_two (show encU bs.length ++ bs = p ++ q from h) with ⟨r, hr, hp⟩ | ⟨r, hp, hb⟩
    · have h1 : rS (p, 0) (size (.b bs)) = ((p, 6), 0) := by rw [rS, rU_no (rd_cut0 hn hp hr), if_pos (by simp)]
      simp only [rV, rB, h1]
      simp
    · subst hp
      have h1 : rS (encU bs.length ++ r, 0) (size (.b bs)) = ((r, 0), bs.length) := rS_enc hn _ (Int.le_refl _)
      have hl : r.length < bs.length := by
        have := congrArg List.length hb
        rw [List.length_append] at this
        have : 0 < q.length := List.length_pos_iff.2 hq
        omega
      simp only [rV, rB, h1]
      simp [hl]
  | l zs =>
    have hn : zs.length < 18446744073709551616 := by have := hv.1; omega
    rcases split_two (show encU zs.length ++ encL zs = p ++ q from h) with ⟨r, hr, hp⟩ | ⟨r, hp, hb⟩
    · have h1 : rS (p, 0) (size (.l zs)) = ((p, 6), 0) := by rw [rS, rU_no (rd_cut0 hn hp hr), if_pos (by simp)]
      simp only [rV, rL, h1, rN]
      simp
    · subst hp
      have h1 : rS (encU zs.length ++ r, 0) (size (.l zs)) = ((r, 0), zs.length) := rS_enc hn _ (Int.le_refl _)
      have h2 := rN_cut zs r q hv.2 hb hq
      simp only [rV, rL, h1]
      rw [if_pos (by rw [h2]; decide)]
      exact h2

/-- The state behind reading values one after the other, each with its own length as the limit. -/
def rAll (s : St) : List Val → St
  | [] => s
  | v :: vs => rAll (rV s (size v) v).1 vs
def encAll (vs : List Val) : List Int := vs.flatMap enc
theorem rAll_err {s : St} (h : s.2 ≠ 0) : ∀ vs, rAll s vs = s
  | [] => rfl
  | v :: vs => by rw [rAll, rV_err h]; exact rAll_err h vs
theorem rAll_cut : ∀ (vs : List Val) (p q : List Int), (∀ v ∈ vs, Fit v) → encAll vs = p ++ q → q ≠ [] → (rAll (p, 0) vs).2 = 6
  | [], p, q, _, h, hq => by
    simp [encAll] at h
    exact absurd h.2 hq
  | v :: vs, p, q, hv, h, hq => by
    have e : enc v ++ encAll vs = p ++ q := by rw [← h]; simp [encAll]
    rcases split_two e with ⟨r, hr, hp⟩ | ⟨r, hp, hb⟩
    · have h1 := rV_cut v (hv v (by simp)) hp hr
      rw [rAll, rAll_err (by rw [h1]; decide)]
      exact h1
    · subst hp
      rw [rAll, rV_enc v (hv v (by simp))]
      exact rAll_cut vs r q (fun x hx => hv x (by simp [hx])) hb hq

/-! ### canonical -/

theorem rU_canon {bs : List Int} (hb : H.Byt bs) {s : St} {n : Nat} (h : rU (bs, 0) = (s, n)) (hs : s.2 = 0) : bs = encU n ++ s.1 ∧ n < 18446744073709551616 ∧ s = (s.1, 0) := by
  rcases hr : rd 0 bs with e | ⟨n', r⟩
  · rw [rU_no hr] at h
    injection h with h1 h2
    subst h1
    exfalso
    have : e = 6 ∨ e = 7 := by
      clear hs h2 hb
      have key : ∀ (l : List Int) (k : Nat) (e : Int), rd k l = .error e → e = 6 ∨ e = 7 := by
        intro l
        induction l with
        | nil => intro k e h; rw [rd_nil] at h; injection h with h; omega
        | cons c l ih =>
          intro k e h
          rw [rd] at h
          split at h
          · injection h with h; omega
          · split at h
            · cases h
            · split at h
              · injection h with h; omega
              · split at h
                · cases h
                · next e' h' => injection h with h; subst h; exact ih _ _ h'
      exact key bs 0 e hr
    simp at hs
    omega
  · rw [rU_ok hr] at h
    injection h with h1 h2
    subst h1 h2
    obtain ⟨e1, _, e3⟩ := rd_canon bs 0 n' r hb (by omega) hr
    refine ⟨e1, ?_, rfl⟩
    have : (2 : Nat) * 128 ^ (9 - 0) = 18446744073709551616 := by decide
    omega

theorem byt_right {a b : List Int} (h : H.Byt (a ++ b)) : H.Byt b := fun x hx => h x (by simp [hx])

theorem rN_canon : ∀ (n : Nat) (bs : List Int), H.Byt bs → (rN (bs, 0) n).1.2 = 0 → ∃ rest, (rN (bs, 0) n).1 = (rest, 0) ∧ bs = encL (rN (bs, 0) n).2 ++ rest ∧ (rN (bs, 0) n).2.length = n
  | 0, bs, _, _ => ⟨bs, rfl, rfl, rfl⟩
  | n + 1, bs, hb, h => by
    by_cases he : (rI (bs, 0)).1.2 = 0
    · have hU : (rU (bs, 0)).1.2 = 0 := he
      obtain ⟨e1, _, e3⟩ := rU_canon hb (s := (rU (bs, 0)).1) (n := (rU (bs, 0)).2) rfl hU
      have hne : ¬ (rI (bs, 0)).1.2 ≠ 0 := by omega
      have hst : (rI (bs, 0)).1 = ((rU (bs, 0)).1.1, 0) := e3
      have hx : zig (rI (bs, 0)).2 = (rU (bs, 0)).2 := zig_zag _
      rw [rN, if_neg hne] at h ⊢
      rw [hst] at h ⊢
      obtain ⟨rest, r1, r2, r3⟩ := rN_canon n (rU (bs, 0)).1.1 (byt_right (by rw [← e1]; exact hb)) h
      refine ⟨rest, r1, ?_, by simp [r3]⟩
      show bs = encU (zig (rI (bs, 0)).2) ++ encL _ ++ rest
      rw [hx, List.append_assoc, ← r2]
      exact e1
    · rw [rN, if_pos he] at h
      exact absurd h he

theorem rS_canon {bs : List Int} (hb : H.Byt bs) {m : Int} (h : (rS (bs, 0) m).1.2 = 0) : ∃ rest, rS (bs, 0) m = ((rest, 0), (rU (bs, 0)).2) ∧ bs = encU (rS (bs, 0) m).2 ++ rest ∧ (((rS (bs, 0) m).2 : Nat) : Int) ≤ m := by
  unfold rS at h ⊢
  by_cases h1 : (rU (bs, 0)).1.2 ≠ 0
  · rw [if_pos h1] at h
    exact absurd h h1
  · rw [if_neg h1] at h ⊢
    by_cases h2 : m < ((rU (bs, 0)).2 : Nat)
    · rw [if_pos h2] at h
      simp at h
    · rw [if_neg h2] at h ⊢
      obtain ⟨e1, _, e3⟩ := rU_canon hb (s := (rU (bs, 0)).1) (n := (rU (bs, 0)).2) rfl h
      exact ⟨_, Prod.ext e3 rfl, e1, by omega⟩

/-- A value that was read without an error: what was read is its encoding. -/
theorem rV_canon (v : Val) {bs : List Int} (hb : H.Byt bs) {m : Int} (h : (rV (bs, 0) m v).1.2 = 0) : ∃ rest, (rV (bs, 0) m v).1 = (rest, 0) ∧ bs = enc (rV (bs, 0) m v).2 ++ rest := by
  cases v with
  | u n =>
    obtain ⟨e1, _, e3⟩ := rU_canon hb (s := (rU (bs, 0)).1) (n := (rU (bs, 0)).2) rfl h
    exact ⟨_, e3, e1⟩
  | i n =>
    have h' : (rU (bs, 0)).1.2 = 0 := h
    obtain ⟨e1, _, e3⟩ := rU_canon hb (s := (rU (bs, 0)).1) (n := (rU (bs, 0)).2) rfl h'
    refine ⟨_, e3, ?_⟩
    show bs = encU (zig (zag (rU (bs, 0)).2)) ++ _
    rw [zig_zag]
    exact e1
  | b n =>
    have h' : (rB (bs, 0) m).1.2 = 0 := h
    show ∃ rest, (rB (bs, 0) m).1 = (rest, 0) ∧ bs = (encU (rB (bs, 0) m).2.length ++ (rB (bs, 0) m).2) ++ rest
    unfold rB at h' ⊢
    by_cases h1 : (rS (bs, 0) m).1.2 ≠ 0
    · rw [if_pos h1] at h'
      exact absurd h' h1
    · rw [if_neg h1] at h' ⊢
      obtain ⟨rest, r1, r2, _⟩ := rS_canon hb (m := m) (by omega)
      by_cases h2 : (rS (bs, 0) m).1.1.length < (rS (bs, 0) m).2
      · rw [if_pos h2] at h'
        simp at h'
      · rw [if_neg h2]
        refine ⟨_, rfl, ?_⟩
        have e : (rS (bs, 0) m).1.1 = rest := by rw [r1]
        rw [e] at h2 ⊢
        rw [List.length_take, Nat.min_eq_left (by omega), List.append_assoc, List.take_append_drop]
        exact r2
  | l n =>
    have h' : (rL (bs, 0) m).1.2 = 0 := h
    show ∃ rest, (rL (bs, 0) m).1 = (rest, 0) ∧ bs = (encU (rL (bs, 0) m).2.length ++ encL (rL (bs, 0) m).2) ++ rest
    unfold rL at h' ⊢
    by_cases h1 : (rN (rS (bs, 0) m).1 (rS (bs, 0) m).2).1.2 ≠ 0
    · rw [if_pos h1] at h'
      exact absurd h' h1
    · rw [if_neg h1] at h' ⊢
      have hS : (rS (bs, 0) m).1.2 = 0 := by
        rcases Decidable.em ((rS (bs, 0) m).1.2 = 0) with h0 | h0
        · exact h0
        · rw [rN_err h0] at h1
          exact absurd h0 h1
      obtain ⟨rest, r1, r2, _⟩ := rS_canon hb hS
      have e : (rS (bs, 0) m).1 = (rest, 0) := by rw [r1]
      rw [e] at h' ⊢
      obtain ⟨rest2, q1, q2, q3⟩ := rN_canon _ rest (byt_right (by rw [← r2]; exact hb)) h'
      refine ⟨rest2, q1, ?_⟩
      rw [q3, List.append_assoc, ← q2]
      exact r2

/-- Reading one value after the other, with limits: the results and the state. -/
def rSeq (s : St) : List (Val × Int) → St × List Val
  | [] => (s, [])
  | (v, m) :: r => ((rSeq (rV s m v).1 r).1, (rV s m v).2 :: (rSeq (rV s m v).1 r).2)
theorem rSeq_err {s : St} (h : s.2 ≠ 0) : ∀ l, (rSeq s l).1 = s
  | [] => rfl
  | (v, m) :: r => by rw [rSeq, rV_err h]; exact rSeq_err h r
theorem rSeq_canon : ∀ (l : List (Val × Int)) (bs : List Int), H.Byt bs → (rSeq (bs, 0) l).1.2 = 0 → ∃ rest, (rSeq (bs, 0) l).1 = (rest, 0) ∧ bs = encAll (rSeq (bs, 0) l).2 ++ rest
  | [], bs, _, _ => ⟨bs, rfl, rfl⟩
  | (v, m) :: r, bs, hb, h => by
    rw [rSeq] at h ⊢
    have h1 : (rV (bs, 0) m v).1.2 = 0 := by
      rcases Decidable.em ((rV (bs, 0) m v).1.2 = 0) with h0 | h0
      · exact h0
      · rw [rSeq_err h0] at h
        exact absurd h h0
    obtain ⟨rest, e1, e2⟩ := rV_canon v hb h1
    rw [e1] at h ⊢
    obtain ⟨rest2, q1, q2⟩ := rSeq_canon r rest (byt_right (by rw [← e2]; exact hb)) h
    refine ⟨rest2, q1, ?_⟩
    show bs = (enc _ ++ encAll _) ++ rest2
    rw [List.append_assoc, ← q2]
    exact e2
theorem rSeq_end (l : List (Val × Int)) (bs : List Int) (hb : H.Byt bs) (h : endOf (rSeq (bs, 0) l).1 = 0) : encAll (rSeq (bs, 0) l).2 = bs := by
  have h0 : (rSeq (bs, 0) l).1.2 = 0 := by
    unfold endOf at h
    split at h
    · cases h
    · exact h
  obtain ⟨rest, e1, e2⟩ := rSeq_canon l bs hb h0
  unfold endOf at h
  rw [e1] at h
  by_cases hr : rest = []
  · rw [hr, List.append_nil] at e2
    exact e2.symm
  · rw [if_pos ⟨rfl, hr⟩] at h
    cases h

/-- Different numbers: neither encoding begins the other one. -/
theorem encU_apart {a b : Nat} (ha : a < 18446744073709551616) (hb : b < 18446744073709551616) {q : List Int} (h : encU a = encU b ++ q) : a = b := by
  have h1 := rd_enc0 ha []
  rw [List.append_nil, h, rd_enc0 hb q] at h1
  injection h1 with h1
  injection h1 with h1 _
  exact h1.symm

end W
end Go.Proofs.Ytlmbpbhdbgadjaa
