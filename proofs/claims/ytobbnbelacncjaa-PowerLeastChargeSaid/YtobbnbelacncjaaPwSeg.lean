/-
  The stretches of constant gain as data; the need and the charge over them.
-/
import Derived.Test.YtobbnbelacncjaaPwSur
namespace Go.Proofs.Ytobbnbelacncjaa
open Go.RowKit
namespace Pw
open H
set_option linter.unusedVariables false
set_option linter.unusedSimpArgs false
/-- Is it an eclipse of the craft? -/
def ecl (a : Int) (x : Q.Wn) : Bool := decide (x.kind = 3 ∧ x.a = a)
def chgS (u : Int) (s : Int × Int) (at_ nx : Int) : Int × Int := if min at_ u - s.1 ≤ 0 then (s.1, nx) else (min at_ u, nx)
def chgY (u : Int) (s : Int × Int) (at_ : Int) : List (Int × Int) := if min at_ u - s.1 ≤ 0 then [] else [(min at_ u - s.1, s.2)]
def wS (a u sun : Int) (s : Int × Int) (x : Q.Wn) : Int × Int := if ecl a x = true then chgS u (chgS u s x.fr 0) x.un sun else s
def wY (a u sun : Int) (s : Int × Int) (x : Q.Wn) : List (Int × Int) := if ecl a x = true then chgY u s x.fr ++ chgY u (chgS u s x.fr 0) x.un else []
def stS (a u sun : Int) (s : Int × Int) (T : List Q.Wn) : Int × Int := T.foldl (wS a u sun) s
def stY (a u sun : Int) : (Int × Int) → List Q.Wn → List (Int × Int)
  | _, [] => []
  | s, x :: T => wY a u sun s x ++ stY a u sun (wS a u sun s x) T
def allY (T : List Q.Wn) (a f u sun : Int) : List (Int × Int) := stY a u sun (f, sun) T ++ chgY u (stS a u sun (f, sun) T) u
theorem stS_snoc (a u sun : Int) (s : Int × Int) (T : List Q.Wn) (x : Q.Wn) : stS a u sun s (T ++ [x]) = wS a u sun (stS a u sun s T) x := by unfold stS; rw [List.foldl_append]; rfl
theorem stY_app (a u sun : Int) : ∀ (T R : List Q.Wn) (s : Int × Int), stY a u sun s (T ++ R) = stY a u sun s T ++ stY a u sun (stS a u sun s T) R
  | [], R, s => rfl
  | x :: T, R, s => by
    show wY a u sun s x ++ stY a u sun (wS a u sun s x) (T ++ R) = (wY a u sun s x ++ stY a u sun (wS a u sun s x) T) ++ stY a u sun (stS a u sun (wS a u sun s x) T) R
    rw [stY_app a u sun T R, List.append_assoc]
theorem stS_step {a u sun : Int} {s : Int × Int} {T : List Q.Wn} {x : Q.Wn} {i : Nat} (h : T[i]? = some x) : stS a u sun s (T.take (i + 1)) = wS a u sun (stS a u sun s (T.take i)) x := by
  rw [List.take_add_one, h]; exact stS_snoc _ _ _ _ _ _
theorem stY_step {a u sun : Int} {s : Int × Int} {T : List Q.Wn} {x : Q.Wn} {i : Nat} (h : T[i]? = some x) : stY a u sun s (T.take (i + 1)) = stY a u sun s (T.take i) ++ wY a u sun (stS a u sun s (T.take i)) x := by
  rw [List.take_add_one, h, Option.toList_some, stY_app]
  show _ ++ (wY a u sun _ x ++ []) = _
  rw [List.append_nil]
theorem stY_pre (T : List Q.Wn) (a f u sun : Int) (i : Nat) : stY a u sun (f, sun) (T.take i) <+: allY T a f u sun := by
  unfold allY
  have h : T = T.take i ++ T.drop i := (List.take_append_drop i T).symm
  conv => rhs; rw [h]
  rw [stY_app, List.append_assoc]
  exact List.prefix_append _ _
theorem pre_at {l m ys : List (Int × Int)} (h : l ++ m <+: ys) {j : Nat} {p : Int × Int} (hp : m[j]? = some p) : ys[l.length + j]? = some p := by
  obtain ⟨r, rfl⟩ := h
  have hj := (List.getElem?_eq_some_iff.1 hp).1
  rw [List.append_assoc, List.getElem?_append_right (by omega), Nat.add_sub_cancel_left, List.getElem?_append_left hj]
  exact hp
/-- The stretches ys lead from t to t'. -/
def SegE (G : Int → Int) : Int → Int → List (Int × Int) → Prop
  | t, t', [] => t' = t
  | t, t', y :: ys => 0 < y.1 ∧ (∀ k, t ≤ k → k < t + y.1 → G k = y.2) ∧ SegE G (t + y.1) t' ys
theorem SegE.app {G : Int → Int} {t2 : Int} {m : List (Int × Int)} : ∀ {l : List (Int × Int)} {t t1 : Int}, SegE G t t1 l → SegE G t1 t2 m → SegE G t t2 (l ++ m)
  | [], t, t1, h, k => by
    have h' : t1 = t := h
    subst h'
    exact k
  | y :: l, t, t1, ⟨h1, h2, h3⟩, k => ⟨h1, h2, SegE.app h3 k⟩
theorem SegE.le {G : Int → Int} : ∀ {l : List (Int × Int)} {t t1 : Int}, SegE G t t1 l → t ≤ t1
  | [], t, t1, h => by
    have h' : t1 = t := h
    omega
  | y :: l, t, t1, ⟨h1, h2, h3⟩ => by have := SegE.le h3; omega
theorem segE_chg {G : Int → Int} {u at_ : Int} {s : Int × Int} (nx : Int) (h : ∀ k, s.1 ≤ k → k < min at_ u → G k = s.2) : SegE G s.1 (chgS u s at_ nx).1 (chgY u s at_) := by
  unfold chgS chgY
  split
  · exact rfl
  · refine ⟨by dsimp only; omega, fun k h1 h2 => h k h1 (by dsimp only at h2; omega), ?_⟩
    show min at_ u = s.1 + (min at_ u - s.1)
    omega
theorem chgS_fst (u : Int) (s : Int × Int) (at_ nx : Int) : (chgS u s at_ nx).1 = max s.1 (min at_ u) ∧ (chgS u s at_ nx).2 = nx := by
  unfold chgS
  split
  · exact ⟨by dsimp only; omega, rfl⟩
  · exact ⟨by dsimp only; omega, rfl⟩
/-- The eclipses of the craft are listed by their beginnings. -/
def SrtF (T : List Q.Wn) : Prop := ∀ (i j : Nat) (x y : Q.Wn), i < j → T[i]? = some x → T[j]? = some y → x.fr ≤ y.fr
theorem seg_inv {T : List Q.Wn} (hT : SrtF T) (a f u sun : Int) : ∀ i, i ≤ T.length → (stS a u sun (f, sun) (T.take i)).2 = sun ∧ f ≤ (stS a u sun (f, sun) (T.take i)).1 ∧ (stS a u sun (f, sun) (T.take i)).1 ≤ max f u ∧ SegE (fun k => gn T a k sun) f (stS a u sun (f, sun) (T.take i)).1 (stY a u sun (f, sun) (T.take i)) ∧ ∀ x ∈ T.take i, ecl a x = true → min x.un u ≤ (stS a u sun (f, sun) (T.take i)).1
  | 0, _ => ⟨rfl, Int.le_refl _, by show f ≤ max f u; omega, rfl, fun x hx => by simp at hx⟩
  | i + 1, hi => by
    obtain ⟨h1, h2, h3, h4, h5⟩ := seg_inv hT a f u sun i (by omega)
    have hx : T[i]? = some T[i] := List.getElem?_eq_getElem (by omega)
    generalize T[i] = x at hx
    rw [stS_step hx, stY_step hx]
    have hmem : ∀ y ∈ T.take (i + 1), y ∈ T.take i ∨ y = x := by
      intro y hy
      rw [List.take_add_one, hx] at hy
      simpa using hy
    generalize stS a u sun (f, sun) (T.take i) = s at *
    unfold wS wY
    by_cases he : ecl a x = true
    · rw [if_pos he, if_pos he]
      have hk := of_decide_eq_true he
      obtain ⟨f1, g1⟩ := chgS_fst u s x.fr 0
      obtain ⟨f2, g2⟩ := chgS_fst u (chgS u s x.fr 0) x.un sun
      have e1 : SegE (fun k => gn T a k sun) s.1 (chgS u s x.fr 0).1 (chgY u s x.fr) := segE_chg 0 (fun k k1 k2 => by
        rw [h1]
        show gn T a k sun = sun
        unfold gn
        rw [if_neg]
        rw [List.any_eq_true]
        rintro ⟨y, hy, hd⟩
        have hd' := of_decide_eq_true hd
        obtain ⟨j, hj⟩ := List.mem_iff_getElem?.1 hy
        rcases Nat.lt_or_ge j i with hji | hji
        · have := h5 y (List.mem_of_getElem? (i := j) (by rw [List.getElem?_take, if_pos hji]; exact hj)) (decide_eq_true ⟨hd'.1, hd'.2.1⟩)
          omega
        · rcases Nat.eq_or_lt_of_le hji with rfl | hlt
          · rw [hx] at hj
            cases hj
            omega
          · have := hT i j x y hlt hx hj
            omega)
      have e2 : SegE (fun k => gn T a k sun) (chgS u s x.fr 0).1 (chgS u (chgS u s x.fr 0) x.un sun).1 (chgY u (chgS u s x.fr 0) x.un) := segE_chg sun (fun k k1 k2 => by
        rw [g1]
        show gn T a k sun = 0
        unfold gn
        rw [if_pos]
        rw [List.any_eq_true]
        exact ⟨x, List.mem_of_getElem? hx, decide_eq_true ⟨hk.1, hk.2, by omega, by omega⟩⟩)
      refine ⟨g2, by omega, by omega, h4.app (e1.app e2), fun y hy hey => ?_⟩
      rcases hmem y hy with hy | rfl
      · have := h5 y hy hey
        omega
      · omega
    · rw [if_neg he, if_neg he, List.append_nil]
      refine ⟨h1, h2, h3, h4, fun y hy hey => ?_⟩
      rcases hmem y hy with hy | rfl
      · exact h5 y hy hey
      · exact absurd hey he
theorem seg_all {T : List Q.Wn} (hT : SrtF T) (a f u sun : Int) : SegE (fun k => gn T a k sun) f (max f u) (allY T a f u sun) := by
  obtain ⟨h1, h2, h3, h4, h5⟩ := seg_inv hT a f u sun T.length (Nat.le_refl _)
  rw [List.take_length] at h1 h2 h3 h4 h5
  have e : SegE (fun k => gn T a k sun) (stS a u sun (f, sun) T).1 (chgS u (stS a u sun (f, sun) T) u 0).1 (chgY u (stS a u sun (f, sun) T) u) := segE_chg 0 (fun k k1 k2 => by
    rw [h1]
    show gn T a k sun = sun
    unfold gn
    rw [if_neg]
    rw [List.any_eq_true]
    rintro ⟨y, hy, hd⟩
    have hd' := of_decide_eq_true hd
    have := h5 y hy (decide_eq_true ⟨hd'.1, hd'.2.1⟩)
    omega)
  have f1 := (chgS_fst u (stS a u sun (f, sun) T) u 0).1
  have e2 : (chgS u (stS a u sun (f, sun) T) u 0).1 = max f u := by omega
  rw [e2] at e
  exact h4.app e
/-- The greatest deficit over stretches. -/
def rsv (e : Int) : List (Int × Int) → Int → Int → Int
  | [], _, N => N
  | y :: ys, D, N => rsv e ys (D + y.1 * (e - y.2)) (max N (D + y.1 * (e - y.2)))
theorem need_run (T : List Q.Wn) (a e sun g : Int) : ∀ (n : Nat) (t : Int), (∀ k, t ≤ k → k < t + n → gn T a k sun = g) → t + n ≤ endT T 0 → max 0 (need T a e sun t) = max 0 (need T a e sun (t + n) + n * (e - g))
  | 0, t, _, _ => by simp
  | n + 1, t, hg, hu => by
    have ih := need_run T a e sun g n (t + 1) (fun k h1 h2 => hg k (by omega) (by omega)) (by omega)
    have hs := need_step T a e sun (k := t) (by omega)
    rw [hg t (by omega) (by omega)] at hs
    have h1 := need_nn T a e sun (t + 1)
    have h2 := need_nn T a e sun t
    have h3 := need_nn T a e sun (t + 1 + n)
    rw [show t + ((n + 1 : Nat) : Int) = t + 1 + n by omega]
    have e1 : ((n + 1 : Nat) : Int) * (e - g) = n * (e - g) + (e - g) := by rw [Int.natCast_add, Int.add_mul]; simp
    rw [e1]
    generalize hp : (n : Int) * (e - g) = p at *
    have hsg : (0 ≤ e - g ∧ 0 ≤ p) ∨ (e - g < 0 ∧ p ≤ 0) := by
      rcases Int.le_total 0 (e - g) with h | h
      · exact .inl ⟨h, by rw [← hp]; exact Int.mul_nonneg (by omega) h⟩
      · by_cases h0 : e - g = 0
        · exact .inl ⟨by omega, by rw [← hp, h0]; simp⟩
        · exact .inr ⟨by omega, by rw [← hp]; exact Int.mul_nonpos_of_nonneg_of_nonpos (by omega) h⟩
    omega
theorem rsv_need (T : List Q.Wn) (a e sun : Int) : ∀ (ys : List (Int × Int)) (t D N : Int), SegE (fun k => gn T a k sun) t (max t (endT T 0)) ys → D ≤ N → rsv e ys D N = max N (D + need T a e sun t)
  | [], t, D, N, h, hD => by
    have h' : max t (endT T 0) = t := h
    rw [need_end T a e sun (k := t) (by omega)]
    show N = _
    omega
  | y :: ys, t, D, N, ⟨h1, h2, h3⟩, hD => by
    have hle := SegE.le h3
    have hu : t + y.1 ≤ endT T 0 := by omega
    have h3' : SegE (fun k => gn T a k sun) (t + y.1) (max (t + y.1) (endT T 0)) ys := by rwa [show max (t + y.1) (endT T 0) = max t (endT T 0) by omega]
    have ih := rsv_need T a e sun ys (t + y.1) (D + y.1 * (e - y.2)) (max N (D + y.1 * (e - y.2))) h3' (by omega)
    show rsv e ys (D + y.1 * (e - y.2)) (max N (D + y.1 * (e - y.2))) = _
    rw [ih]
    have hn := need_run T a e sun y.2 y.1.toNat t (fun k k1 k2 => h2 k k1 (by omega)) (by omega)
    rw [show ((y.1.toNat : Nat) : Int) = y.1 by omega] at hn
    have n1 := need_nn T a e sun t
    have n2 := need_nn T a e sun (t + y.1)
    generalize y.1 * (e - y.2) = p at *
    omega
/-- The charge over stretches. -/
def svF (e cap : Int) : List (Int × Int) → Int → Option Int
  | [], c => some c
  | y :: ys, c => if min (min (c + y.2) cap - e + (y.1 - 1) * (y.2 - e)) (cap - e) < 0 then none else svF e cap ys (min (min (c + y.2) cap - e + (y.1 - 1) * (y.2 - e)) (cap - e))
theorem sv_run (T : List Q.Wn) (a e sun cap f chg g : Int) {m : Nat} {c : Int} (h0 : sv T a e sun cap f chg m = some c) (he : 0 ≤ e) (hg : 0 ≤ g) (hc : 0 ≤ c ∧ c ≤ cap) : ∀ n : Nat, (∀ k, f + m ≤ k → k < f + m + (n + 1) → gn T a k sun = g) → sv T a e sun cap f chg (m + (n + 1)) = if min (min (c + g) cap - e + n * (g - e)) (cap - e) < 0 then none else some (min (min (c + g) cap - e + n * (g - e)) (cap - e))
  | 0, hk => by
    show sv T a e sun cap f chg (m + 1) = _
    unfold sv
    rw [h0]
    dsimp only
    rw [hk (f + m) (Int.le_refl _) (by omega)]
    rw [show ((0 : Nat) : Int) * (g - e) = 0 by simp]
    by_cases h : min cap (c + g) < e
    · rw [if_pos h, if_pos (by omega)]
    · rw [if_neg h, if_neg (by omega)]
      congr 1
      omega
  | n + 1, hk => by
    have ih := sv_run T a e sun cap f chg g h0 he hg hc n (fun k h1 h2 => hk k h1 (by omega))
    show sv T a e sun cap f chg ((m + (n + 1)) + 1) = _
    unfold sv
    rw [ih, hk (f + ((m + (n + 1) : Nat) : Int)) (by omega) (by omega)]
    have e1 : ((n + 1 : Nat) : Int) * (g - e) = n * (g - e) + (g - e) := by rw [Int.natCast_add, Int.add_mul]; simp
    rw [e1]
    generalize hp : (n : Int) * (g - e) = p at *
    have hsg : (0 ≤ g - e ∧ 0 ≤ p) ∨ (g - e < 0 ∧ p ≤ 0) := by
      rcases Int.le_total 0 (g - e) with h | h
      · exact .inl ⟨h, by rw [← hp]; exact Int.mul_nonneg (by omega) h⟩
      · by_cases h00 : g - e = 0
        · exact .inl ⟨by omega, by rw [← hp, h00]; simp⟩
        · exact .inr ⟨by omega, by rw [← hp]; exact Int.mul_nonpos_of_nonneg_of_nonpos (by omega) h⟩
    by_cases h : min (min (c + g) cap - e + p) (cap - e) < 0
    · rw [if_pos h]
      dsimp only
      rw [if_pos (by omega)]
    · rw [if_neg h]
      dsimp only
      by_cases h2 : min cap (min (min (c + g) cap - e + p) (cap - e) + g) < e
      · rw [if_pos h2, if_pos (by omega)]
      · rw [if_neg h2, if_neg (by omega)]
        congr 1
        omega
theorem svF_sv (T : List Q.Wn) (a e sun cap f chg : Int) (he : 0 ≤ e) (hs : 0 ≤ sun) : ∀ (ys : List (Int × Int)) (m : Nat) (c t' : Int), SegE (fun k => gn T a k sun) (f + m) t' ys → sv T a e sun cap f chg m = some c → 0 ≤ c ∧ c ≤ cap → (svF e cap ys c).isSome = (sv T a e sun cap f chg (t' - f).toNat).isSome
  | [], m, c, t', h, h0, hc => by
    have h' : t' = f + m := h
    rw [h', show (f + (m : Int) - f).toNat = m by omega, h0]
    rfl
  | y :: ys, m, c, t', ⟨h1, h2, h3⟩, h0, hc => by
    have hle := SegE.le h3
    have hgn : gn T a (f + m) sun = y.2 := h2 (f + m) (Int.le_refl _) (by omega)
    have hg0 : 0 ≤ y.2 := by rw [← hgn]; unfold gn; split <;> omega
    have hr := sv_run T a e sun cap f chg y.2 h0 he hg0 hc (y.1.toNat - 1) (fun k k1 k2 => h2 k k1 (by omega))
    rw [show m + (y.1.toNat - 1 + 1) = m + y.1.toNat by omega, show ((y.1.toNat - 1 : Nat) : Int) = y.1 - 1 by omega] at hr
    show (if _ then none else svF e cap ys _).isSome = _
    split
    · rename_i hn
      rw [if_pos hn] at hr
      have hz := sv_none T a e sun cap f chg hr ((t' - f).toNat - (m + y.1.toNat))
      rw [show m + y.1.toNat + ((t' - f).toNat - (m + y.1.toNat)) = (t' - f).toNat by omega] at hz
      rw [hz]
    · rename_i hn
      rw [if_neg hn] at hr
      refine svF_sv T a e sun cap f chg he hs ys (m + y.1.toNat) _ t' ?_ hr (by omega)
      rw [show f + ((m + y.1.toNat : Nat) : Int) = f + m + y.1 by omega]
      exact h3
end Pw
end Go.Proofs.Ytobbnbelacncjaa
