/-
  The deficits of the periods from a tick on, and the need: its greatest.
-/
import Derived.Test.YtobbnbelacncjaaPwTb2
import Derived.Test.YtobbnbelacncjaaPwSur
import Derived.Test.YtobbnbelacncjaaQTks
import Derived.Test.YtobbnbelacncjaaQAt
namespace Go.Proofs.Ytobbnbelacncjaa
open Go.RowKit
namespace Q
open H
set_option linter.unusedVariables false
set_option linter.unusedSimpArgs false
set_option maxRecDepth 100000
theorem cov_add (x : Wn) {f m u : Int} (h1 : f ≤ m) (h2 : m ≤ u) : cov f m x + cov m u x = cov f u x := by
  unfold cov
  split <;> split <;> split <;> omega
theorem sum_add : ∀ (L : List Wn) {f m u : Int}, f ≤ m → m ≤ u → sumI (L.map (cov f m)) + sumI (L.map (cov m u)) = sumI (L.map (cov f u))
  | [], _, _, _, _, _ => rfl
  | x :: L, f, m, u, h1, h2 => by
    have h := cov_add x h1 h2
    have ih := sum_add L h1 h2
    simp only [List.map_cons, sumI]
    omega
theorem tick_add (T : List Wn) (k a b : Int) {f m u : Int} (h1 : f ≤ m) (h2 : m ≤ u) : tick T k a b f m + tick T k a b m u = tick T k a b f u := sum_add _ h1 h2
theorem sum_zero : ∀ (L : List Wn) (f u : Int), (∀ x ∈ L, cov f u x = 0) → sumI (L.map (cov f u)) = 0
  | [], _, _, _ => rfl
  | x :: L, f, u, h => by
    have h1 := h x (by simp)
    have h2 := sum_zero L f u fun y hy => h y (by simp [hy])
    simp only [List.map_cons, sumI]
    omega
theorem tick_zero {T : List Wn} {k a b f u : Int} (h : ∀ x ∈ T, hk x k a b = true → cov f u x = 0) : tick T k a b f u = 0 :=
  sum_zero _ _ _ fun x hx => by
    obtain ⟨h1, h2⟩ := List.mem_filter.1 hx
    exact h x h1 h2
theorem cov_one (x : Wn) (t : Int) : cov t (t + 1) x = if op x t = true then 1 else 0 := by
  unfold cov op
  by_cases h : x.fr ≤ t ∧ t < x.un
  · rw [if_pos (by omega), if_pos (decide_eq_true h)]; omega
  · rw [if_neg (show ¬ decide (x.fr ≤ t ∧ t < x.un) = true by simpa using h)]
    split <;> omega
theorem at_two {x y : Wn} {k a b t : Int} (hx : pAt k a b t x = true) (hy : pAt k a b t y = true) : meet x y = true := by
  unfold pAt hk op at *
  unfold meet
  simp only [Bool.and_eq_true, decide_eq_true_eq] at *
  omega
theorem tick_one : ∀ (T : List Wn) (k a b t : Int), T.Pairwise (fun y z => meet y z = false) → tick T k a b t (t + 1) = if (T.find? (pAt k a b t)).isSome = true then 1 else 0
  | [], _, _, _, _, _ => rfl
  | x :: T, k, a, b, t, h => by
    obtain ⟨h1, h2⟩ := List.pairwise_cons.1 h
    have ih := tick_one T k a b t h2
    by_cases hp : pAt k a b t x = true
    · have hh : hk x k a b = true := by unfold pAt at hp; simp only [Bool.and_eq_true] at hp; exact hp.1
      have ho : op x t = true := by unfold pAt at hp; simp only [Bool.and_eq_true] at hp; exact hp.2
      have hz : tick T k a b t (t + 1) = 0 := tick_zero fun y hy hk' => by
        rw [cov_one, if_neg]
        intro hoy
        have := at_two hp (y := y) (by unfold pAt; rw [hk', hoy]; rfl)
        rw [h1 y hy] at this
        cases this
      rw [List.find?_cons_of_pos hp]
      unfold tick
      rw [List.filter_cons_of_pos (show pTicks k a b x = true from hh)]
      show cov t (t + 1) x + tick T k a b t (t + 1) = _
      rw [hz, cov_one, if_pos ho]
      rfl
    · rw [List.find?_cons_of_neg hp, ← ih]
      unfold tick
      by_cases hh : pTicks k a b x = true
      · rw [List.filter_cons_of_pos hh]
        show cov t (t + 1) x + _ = _
        rw [cov_one, if_neg]
        · omega
        · intro ho
          exact hp (by unfold pAt; rw [show hk x k a b = true from hh, ho]; rfl)
      · rw [List.filter_cons_of_neg hh]
end Q
namespace Pw
open H
set_option linter.unusedVariables false
set_option linter.unusedSimpArgs false
set_option maxRecDepth 100000
theorem tick_gn {T : List Q.Wn} (hm : T.Pairwise (fun y z => Q.meet y z = false)) (hb : ∀ x ∈ T, x.b = 0) (a t sun : Int) : (Q.tick T 3 a 0 t (t + 1) = 1 ∧ gn T a t sun = 0) ∨ (Q.tick T 3 a 0 t (t + 1) = 0 ∧ gn T a t sun = sun) := by
  rw [Q.tick_one T 3 a 0 t hm]
  unfold gn
  have he : (T.find? (Q.pAt 3 a 0 t)).isSome = true ↔ T.any (dk a t) = true := by
    rw [List.find?_isSome, List.any_eq_true]
    constructor
    · rintro ⟨x, hx, h⟩
      refine ⟨x, hx, ?_⟩
      unfold Q.pAt Q.hk Q.op at h
      unfold dk
      simp only [Bool.and_eq_true, decide_eq_true_eq] at h ⊢
      omega
    · rintro ⟨x, hx, h⟩
      refine ⟨x, hx, ?_⟩
      have := hb x hx
      unfold Q.pAt Q.hk Q.op
      unfold dk at h
      simp only [Bool.and_eq_true, decide_eq_true_eq] at h ⊢
      omega
  by_cases h : T.any (dk a t) = true
  · left
    rw [if_pos (he.2 h), if_pos h]
    exact ⟨rfl, rfl⟩
  · right
    rw [if_neg (fun h2 => h (he.1 h2)), if_neg h]
    exact ⟨rfl, rfl⟩
/-- The deficit of the j ticks from f on. -/
def df (T : List Q.Wn) (a e sun f : Int) : Nat → Int
  | 0 => 0
  | j + 1 => df T a e sun f j + (e - gn T a (f + j) sun)
/-- The greatest of the first n. -/
def mx (T : List Q.Wn) (a e sun f : Int) : Nat → Int
  | 0 => 0
  | n + 1 => max (mx T a e sun f n) (df T a e sun f n)
theorem df_front (T : List Q.Wn) (a e sun f : Int) : ∀ j : Nat, df T a e sun f (j + 1) = (e - gn T a f sun) + df T a e sun (f + 1) j
  | 0 => by
    show 0 + (e - gn T a (f + ((0 : Nat) : Int)) sun) = _ + 0
    rw [show f + ((0 : Nat) : Int) = f by omega]
    omega
  | j + 1 => by
    have ih := df_front T a e sun f j
    show df T a e sun f (j + 1) + (e - gn T a (f + ((j + 1 : Nat) : Int)) sun) = _ + (df T a e sun (f + 1) j + (e - gn T a (f + 1 + (j : Int)) sun))
    rw [ih, show f + ((j + 1 : Nat) : Int) = f + 1 + (j : Int) by omega]
    omega
theorem mx_front (T : List Q.Wn) (a e sun f : Int) : ∀ n : Nat, mx T a e sun f (n + 2) = max 0 ((e - gn T a f sun) + mx T a e sun (f + 1) (n + 1))
  | 0 => by
    have h := df_front T a e sun f 0
    show max (max 0 0) (df T a e sun f 1) = max 0 (_ + max 0 0)
    rw [h]
    show max (max 0 0) (_ + 0) = _
    simp
  | n + 1 => by
    have ih := mx_front T a e sun f n
    have h := df_front T a e sun f (n + 1)
    show max (mx T a e sun f (n + 2)) (df T a e sun f (n + 2)) = max 0 (_ + max (mx T a e sun (f + 1) (n + 1)) (df T a e sun (f + 1) (n + 1)))
    rw [ih, h]
    omega
theorem nd_mx (T : List Q.Wn) (a e sun : Int) : ∀ n : Nat, nd T a e sun n = mx T a e sun (endT T 0 - n) (n + 1)
  | 0 => by show (0 : Int) = max 0 0; simp
  | n + 1 => by
    have ih := nd_mx T a e sun n
    have h := mx_front T a e sun (endT T 0 - ((n + 1 : Nat) : Int)) n
    rw [h, show endT T 0 - ((n + 1 : Nat) : Int) + 1 = endT T 0 - n by omega, ← ih]
    show max 0 (nd T a e sun n + e - gn T a (endT T 0 - 1 - n) sun) = _
    rw [show endT T 0 - ((n + 1 : Nat) : Int) = endT T 0 - 1 - n by omega]
    omega
theorem need_mx (T : List Q.Wn) (a e sun f : Int) (h0 : 0 ≤ endT T 0) : need T a e sun f = mx T a e sun f (endT T 0 - f + 1).toNat := by
  unfold need
  by_cases h : f ≤ endT T 0
  · rw [nd_mx, show endT T 0 - (((endT T 0 - f).toNat : Nat) : Int) = f by omega, show (endT T 0 - f + 1).toNat = (endT T 0 - f).toNat + 1 by omega]
  · rw [show (endT T 0 - f).toNat = 0 by omega, show (endT T 0 - f + 1).toNat = 0 by omega]
    rfl
theorem df_tick {T : List Q.Wn} (hm : T.Pairwise (fun y z => Q.meet y z = false)) (hb : ∀ x ∈ T, x.b = 0) (a e sun f : Int) : ∀ j : Nat, (0 ≤ Q.tick T 3 a 0 f (f + j) ∧ Q.tick T 3 a 0 f (f + j) ≤ j) ∧ df T a e sun f j = j * e - (j - Q.tick T 3 a 0 f (f + j)) * sun
  | 0 => by
    have h : Q.tick T 3 a 0 f (f + ((0 : Nat) : Int)) = 0 := Q.tick_zero fun x _ _ => by
      unfold Q.cov
      rw [if_neg (by omega)]
    rw [h]
    exact ⟨by simp, by simp [df]⟩
  | j + 1 => by
    obtain ⟨ih1, ih2⟩ := df_tick hm hb a e sun f j
    have h := Q.tick_add T 3 a 0 (f := f) (m := f + j) (u := f + j + 1) (by omega) (by omega)
    have hd : df T a e sun f (j + 1) = df T a e sun f j + (e - gn T a (f + j) sun) := rfl
    rw [show f + ((j + 1 : Nat) : Int) = f + j + 1 by omega, ← h, hd, ih2]
    have c1 : ((j + 1 : Nat) : Int) = (j : Int) + 1 := by omega
    rw [c1]
    rcases tick_gn hm hb a (f + j) sun with ⟨g1, g2⟩ | ⟨g1, g2⟩ <;> rw [g1, g2]
    · refine ⟨by omega, ?_⟩
      rw [Int.add_mul, show (j : Int) + 1 - (Q.tick T 3 a 0 f (f + j) + 1) = j - Q.tick T 3 a 0 f (f + j) by omega]
      omega
    · refine ⟨by omega, ?_⟩
      rw [Int.add_mul, show (j : Int) + 1 - (Q.tick T 3 a 0 f (f + j) + 0) = (j - Q.tick T 3 a 0 f (f + j)) + 1 by omega, Int.add_mul (j - Q.tick T 3 a 0 f (f + j))]
      omega
/-- Windows of one craft are behind one another. -/
structure TDis (s : Tb) : Prop where
  e0 : ∀ x ∈ s.out, x.a = 0 → x.un ≤ s.e0
  e1 : ∀ x ∈ s.out, x.a = 1 → x.un ≤ s.e1
  dis : s.out.Pairwise (fun y z => Q.meet y z = false)
theorem tstep_dis {s : Tb} (h : TDis s) (hk : TInv s) {n : Int} (hn : 0 ≤ n) : TDis (tstep s n) := by
  have hb := tb_bd hk.ok hn
  have hf : (cr n = 0 → s.e0 ≤ frm s n) ∧ (cr n = 1 → s.e1 ≤ frm s n) := by
    unfold frm fr0
    rcases cr_bd n with hc | hc <;> rw [hc] <;> simp <;> split <;> omega
  refine ⟨fun x hx ha => ?_, fun x hx ha => ?_, ?_⟩
  · show x.un ≤ if cr n = 0 then utl s n else s.e0
    rcases List.mem_append.1 hx with hx | hx
    · have := h.e0 x hx ha
      split <;> rename_i hc
      · have := hf.1 hc; omega
      · omega
    · rw [List.mem_singleton.1 hx] at ha ⊢
      rw [if_pos (show cr n = 0 from ha)]
      exact Int.le_refl _
  · show x.un ≤ if cr n = 0 then s.e1 else utl s n
    rcases List.mem_append.1 hx with hx | hx
    · have := h.e1 x hx ha
      split <;> rename_i hc
      · omega
      · have := hf.2 (by have := cr_bd n; omega); omega
    · rw [List.mem_singleton.1 hx] at ha ⊢
      have ha2 : cr n = 1 := ha
      rw [if_neg (by omega)]
      exact Int.le_refl _
  · show (s.out ++ [win s n]).Pairwise _
    rw [List.pairwise_append]
    refine ⟨h.dis, by simp, fun x hx y hy => ?_⟩
    rw [List.mem_singleton.1 hy]
    have hw := (hk.win x hx).2.2.2.2.2.1
    refine decide_eq_false ?_
    show ¬ ((x.kind = 3 ∧ x.a = cr n ∧ x.b = 0) ∧ x.fr < utl s n ∧ frm s n < x.un)
    rintro ⟨⟨_, ha, _⟩, _, h2⟩
    rcases hw with hw | hw
    · have := h.e0 x hx hw; have := hf.1 (by omega); omega
    · have := h.e1 x hx hw; have := hf.2 (by omega); omega
theorem tabT_dis : ∀ (l : List Int) (s : Tb), (∀ n ∈ l, 0 ≤ n) → TInv s → TDis s → (tabT s l).Pairwise (fun y z => Q.meet y z = false)
  | [], s, _, _, h => h.dis
  | n :: l, s, hl, hk, h => by
    unfold tabT
    split
    · exact h.dis
    · rename_i hu
      exact tabT_dis l (tstep s n) (fun m hm => hl m (by simp [hm])) (tstep_inv hk (hl n (by simp)) hu) (tstep_dis h hk (hl n (by simp)))
theorem tab_dis {l : List Int} (hl : ∀ n ∈ l, 0 ≤ n) : (tabL l).Pairwise (fun y z => Q.meet y z = false) :=
  tabT_dis _ _ (fun n hn => hl n (List.mem_of_mem_take hn)) tb0_inv ⟨fun x hx => by simp [tb0] at hx, fun x hx => by simp [tb0] at hx, by simp [tb0]⟩
theorem tab_b {l : List Int} (hl : ∀ n ∈ l, 0 ≤ n) : ∀ x ∈ tabL l, x.b = 0 := fun x hx => ((tab_all hl).1 x hx).2.2.2.2.2.2
end Pw
end Go.Proofs.Ytobbnbelacncjaa
