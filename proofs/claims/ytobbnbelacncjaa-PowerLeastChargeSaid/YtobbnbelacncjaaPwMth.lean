/-
  Merged by merge.py: PwTb2 PwDef PwGr PwSaf PwFut.
-/
import Derived.Test.YtobbnbelacncjaaPwTab
import Derived.Test.YtobbnbelacncjaaPwLaw
import Derived.Test.YtobbnbelacncjaaPwSur
import Derived.Test.YtobbnbelacncjaaQTks
import Derived.Test.YtobbnbelacncjaaQAt
import Derived.Test.YtobbnbelacncjaaPwRes
import Derived.Test.YtobbnbelacncjaaPwR1
import Derived.Deep.LoopGhost
import Derived.Test.YtobbnbelacncjaaPwStD
import Derived.Test.YtobbnbelacncjaaPwSrt
namespace Go.Proofs.Ytobbnbelacncjaa
open Go.RowKit
namespace Pw
open H
set_option linter.unusedVariables false
set_option linter.unusedSimpArgs false
set_option maxRecDepth 100000
theorem flat6_len (L : List Q.Wn) : (flat6 L).length = L.length * 6 := by
  induction L with
  | nil => rfl
  | cons x L ih =>
    show (cells6 x ++ flat6 L).length = _
    rw [List.length_append, ih, List.length_cons]
    show 6 + _ = _
    omega
theorem flat6_get : ∀ (L : List Q.Wn) (j i : Nat) (x : Q.Wn), L[j]? = some x → i < 6 → (flat6 L)[j * 6 + i]? = (cells6 x)[i]?
  | [], j, i, x, h, _ => by simp at h
  | y :: L, 0, i, x, h, hi => by
    have h2 : y = x := by simpa using h
    subst h2
    show (cells6 y ++ flat6 L)[0 * 6 + i]? = _
    rw [List.getElem?_append_left (by show 0 * 6 + i < 6; omega), Nat.zero_mul, Nat.zero_add]
  | y :: L, j + 1, i, x, h, hi => by
    have h2 : L[j]? = some x := by simpa using h
    show (cells6 y ++ flat6 L)[(j + 1) * 6 + i]? = _
    rw [List.getElem?_append_right (by show 6 ≤ (j + 1) * 6 + i; omega), show (j + 1) * 6 + i - (cells6 y).length = j * 6 + i from by show (j + 1) * 6 + i - 6 = _; omega]
    exact flat6_get L j i x h2 hi
theorem own_rds6 {W : World} {b : Nat} {A : Option Addr} {c : Nat} {L : List Q.Wn} (h : W.ownsRow b 77 6 (.slice A L.length c) L.length (flat6 L)) : Q.RdsWn W W.heap.size A L := by
  intro j x hx
  have hj := (List.getElem?_eq_some_iff.1 hx).1
  obtain ⟨_, ⟨_, h0⟩ | ⟨g, cap, cur, hv, _, hh, h1, h2, hcs, ht⟩⟩ := h
  · omega
  · have e : A = some ⟨g, 0, none⟩ := by injection hv
    have key : ∀ r, r < 6 → cur[j * 6 + r]? = (cells6 x)[r]? := fun r hr => by
      rw [← flat6_get L j r x hx hr, ← ht, List.getElem?_take, if_pos (by omega), Array.getElem?_toList]
    refine ⟨_, e, hlt_of hh, ?_⟩
    rw [ad_add]
    exact ⟨by rw [cell_obj hh]; exact key 0 (by omega), by rw [cell_obj hh]; exact key 1 (by omega), by rw [cell_obj hh]; exact key 2 (by omega), by rw [cell_obj hh]; exact key 3 (by omega), by rw [cell_obj hh]; exact key 4 (by omega), by rw [cell_obj hh]; exact key 5 (by omega)⟩
theorem rtable2_any (l : List Int) (A : Option Addr) (cap B : Nat) (w : World) (hB : B ≤ w.heap.size) (hlen : l.length ≤ 140737488351232) (hl : ∀ n ∈ l, 0 ≤ n ∧ n < 65536) (hR : RdI w B .u16 A l) :
    Calls Try.prog 23 #[.slice A l.length cap] w fun e w' => ∃ A c, e = .returned (.slice A (tabL l).length c) ∧ Q.RdsWn w' w'.heap.size A (tabL l) ∧ Below w.heap.size w w' := by
  refine (rtable_any l A cap B w hB hlen hl hR).mono ?_
  rintro e w' ⟨v, rfl, ho, hB⟩
  obtain ⟨A, c, rfl⟩ := own_shape6 ho
  exact ⟨A, c, rfl, own_rds6 ho, hB⟩
/-- What holds of a table made of numbers. -/
structure TInv (s : Tb) : Prop where
  ok : TbOk s
  win : ∀ x ∈ s.out, 0 ≤ x.fr ∧ x.fr ≤ s.at_ ∧ x.fr < x.un ∧ x.un ≤ 1000 ∧ x.kind = 3 ∧ (x.a = 0 ∨ x.a = 1) ∧ x.b = 0
  srt : s.out.Pairwise (fun x y => x.fr ≤ y.fr)
theorem tstep_inv {s : Tb} (h : TInv s) {n : Int} (hn : 0 ≤ n) (hu : ¬ 1000 < utl s n) : TInv (tstep s n) := by
  have hb := tb_bd h.ok hn
  refine ⟨tstep_ok h.ok hn hu, fun x hx => ?_, ?_⟩
  · rcases List.mem_append.1 hx with hx | hx
    · have := h.win x hx
      show 0 ≤ x.fr ∧ x.fr ≤ frm s n ∧ _
      exact ⟨this.1, by omega, this.2.2⟩
    · rw [List.mem_singleton.1 hx]
      show 0 ≤ frm s n ∧ frm s n ≤ frm s n ∧ frm s n < utl s n ∧ utl s n ≤ 1000 ∧ (3 : Int) = 3 ∧ (cr n = 0 ∨ cr n = 1) ∧ (0 : Int) = 0
      exact ⟨by omega, Int.le_refl _, by omega, by omega, rfl, cr_bd n, rfl⟩
  · show (s.out ++ [win s n]).Pairwise _
    rw [List.pairwise_append]
    refine ⟨h.srt, by simp, fun x hx y hy => ?_⟩
    rw [List.mem_singleton.1 hy]
    have := h.win x hx
    show x.fr ≤ frm s n
    omega
theorem tabT_inv : ∀ (l : List Int) (s : Tb), (∀ n ∈ l, 0 ≤ n) → TInv s → (∀ x ∈ tabT s l, 0 ≤ x.fr ∧ x.fr ≤ 1000 ∧ x.fr < x.un ∧ x.un ≤ 1000 ∧ x.kind = 3 ∧ (x.a = 0 ∨ x.a = 1) ∧ x.b = 0) ∧ (tabT s l).Pairwise (fun x y => x.fr ≤ y.fr) ∧ (tabT s l).length ≤ s.out.length + l.length
  | [], s, _, h => ⟨fun x hx => by have := h.win x hx; have := h.ok.at_; omega, h.srt, Nat.le_refl _⟩
  | n :: l, s, hl, h => by
    have hw : ∀ x ∈ s.out, 0 ≤ x.fr ∧ x.fr ≤ 1000 ∧ x.fr < x.un ∧ x.un ≤ 1000 ∧ x.kind = 3 ∧ (x.a = 0 ∨ x.a = 1) ∧ x.b = 0 := fun x hx => by have := h.win x hx; have := h.ok.at_; omega
    unfold tabT
    split
    · exact ⟨hw, h.srt, by omega⟩
    · rename_i hu
      have h2 := tabT_inv l (tstep s n) (fun m hm => hl m (by simp [hm])) (tstep_inv h (hl n (by simp)) hu)
      refine ⟨h2.1, h2.2.1, ?_⟩
      have h3 := h2.2.2
      have h4 : (tstep s n).out.length = s.out.length + 1 := by show (s.out ++ [win s n]).length = _; simp
      rw [List.length_cons]
      omega
theorem tb0_inv : TInv tb0 := ⟨⟨by simp [tb0], by simp [tb0], by simp [tb0], by simp [tb0]⟩, fun x hx => by simp [tb0] at hx, by simp [tb0]⟩
theorem tab_all {l : List Int} (hl : ∀ n ∈ l, 0 ≤ n) : (∀ x ∈ tabL l, 0 ≤ x.fr ∧ x.fr ≤ 1000 ∧ x.fr < x.un ∧ x.un ≤ 1000 ∧ x.kind = 3 ∧ (x.a = 0 ∨ x.a = 1) ∧ x.b = 0) ∧ (tabL l).Pairwise (fun x y => x.fr ≤ y.fr) ∧ (tabL l).length ≤ 30 := by
  have h := tabT_inv (l.take 30) tb0 (fun n hn => hl n (List.mem_of_mem_take hn)) tb0_inv
  refine ⟨h.1, h.2.1, ?_⟩
  have h2 := h.2.2
  rw [List.length_take] at h2
  have h3 : tb0.out.length = 0 := rfl
  unfold tabL
  omega
theorem tab_tok {l : List Int} (hl : ∀ n ∈ l, 0 ≤ n) : ∀ x ∈ tabL l, Q.Tok x := fun x hx => by
  have h := (tab_all hl).1 x hx
  exact ⟨by omega, by omega⟩
theorem tab_srt {l : List Int} (hl : ∀ n ∈ l, 0 ≤ n) : SrtF (tabL l) := fun i j x y hij hx hy => by
  have h := (tab_all hl).2.1
  obtain ⟨hi, rfl⟩ := List.getElem?_eq_some_iff.1 hx
  obtain ⟨hj, rfl⟩ := List.getElem?_eq_some_iff.1 hy
  exact List.pairwise_iff_getElem.1 h i j hi hj hij
theorem endT_le (T : List Q.Wn) {b n : Int} (h : ∀ x ∈ T, x.un ≤ b) (hn : n ≤ b) : endT T n ≤ b := by
  induction T generalizing n with
  | nil => exact hn
  | cons x T ih =>
    show endT T (max n x.un) ≤ b
    have := h x (by simp)
    exact ih (fun y hy => h y (by simp [hy])) (by omega)
theorem tab_end_le {l : List Int} (hl : ∀ n ∈ l, 0 ≤ n) : 0 ≤ endT (tabL l) 0 ∧ endT (tabL l) 0 ≤ 1000 :=
  ⟨(endT_bd (fun x hx => (by have := (tab_all hl).1 x hx; omega)) (by omega)).1, endT_le _ (fun x hx => (by have := (tab_all hl).1 x hx; omega)) (by omega)⟩
theorem u8_bd {a : Int} (h : (Lit.int .u8 a).wf = true) : 0 ≤ a ∧ a < 256 := by
  simp [Lit.wf, IntKind.min, IntKind.max, IntKind.signed, IntKind.bits] at h
  omega
theorem u16_bd {a : Int} (h : (Lit.int .u16 a).wf = true) : 0 ≤ a ∧ a < 65536 := by
  simp [Lit.wf, IntKind.min, IntKind.max, IntKind.signed, IntKind.bits] at h
  omega
end Pw
namespace Q
theorem RdsWn.more {w : World} {B B' : Nat} {A : Option Addr} {xs : List Wn} (h : RdsWn w B A xs) (hb : B ≤ B') : RdsWn w B' A xs := fun j x hx => by
  obtain ⟨ad, h1, h2, h3⟩ := h j x hx
  exact ⟨ad, h1, by omega, h3⟩
end Q
end Go.Proofs.Ytobbnbelacncjaa

namespace Go.Proofs.Ytobbnbelacncjaa
open Go.RowKit
namespace Q
open H
set_option linter.unusedVariables false
set_option linter.unusedSimpArgs false
set_option maxRecDepth 100000
theorem cov_add (x : Wn) {f m u : Int} (h1 : f ≤ m) (h2 : m ≤ u) : cov f m x + cov m u x = cov f u x := by
  unfold cov
  split <;> split <;> split <;> omega
theorem sum_add : ∀ (L : List Wn) {f m u : Int}, f ≤ m → m ≤ u → sumI (L.map (cov f m)) + sumI (L.map (cov m u)) = sumI (L.map (cov f u))
  | [], _, _, _, _, _ => rfl
  | x :: L, f, m, u, h1, h2 => by
    have h := cov_add x h1 h2
    have ih := sum_add L h1 h2
    simp only [List.map_cons, sumI]
    omega
theorem tick_add (T : List Wn) (k a b : Int) {f m u : Int} (h1 : f ≤ m) (h2 : m ≤ u) : tick T k a b f m + tick T k a b m u = tick T k a b f u := sum_add _ h1 h2
theorem sum_zero : ∀ (L : List Wn) (f u : Int), (∀ x ∈ L, cov f u x = 0) → sumI (L.map (cov f u)) = 0
  | [], _, _, _ => rfl
  | x :: L, f, u, h => by
    have h1 := h x (by simp)
    have h2 := sum_zero L f u fun y hy => h y (by simp [hy])
    simp only [List.map_cons, sumI]
    omega
theorem tick_zero {T : List Wn} {k a b f u : Int} (h : ∀ x ∈ T, hk x k a b = true → cov f u x = 0) : tick T k a b f u = 0 :=
  sum_zero _ _ _ fun x hx => by
    obtain ⟨h1, h2⟩ := List.mem_filter.1 hx
    exact h x h1 h2
theorem cov_one (x : Wn) (t : Int) : cov t (t + 1) x = if op x t = true then 1 else 0 := by
  unfold cov op
  by_cases h : x.fr ≤ t ∧ t < x.un
  · rw [if_pos (by omega), if_pos (decide_eq_true h)]; omega
  · rw [if_neg (show ¬ decide (x.fr ≤ t ∧ t < x.un) = true by simpa using h)]
    split <;> omega
theorem at_two {x y : Wn} {k a b t : Int} (hx : pAt k a b t x = true) (hy : pAt k a b t y = true) : meet x y = true := by
  unfold pAt hk op at *
  unfold meet
  simp only [Bool.and_eq_true, decide_eq_true_eq] at *
  omega
theorem tick_one : ∀ (T : List Wn) (k a b t : Int), T.Pairwise (fun y z => meet y z = false) → tick T k a b t (t + 1) = if (T.find? (pAt k a b t)).isSome = true then 1 else 0
  | [], _, _, _, _, _ => rfl
  | x :: T, k, a, b, t, h => by
    obtain ⟨h1, h2⟩ := List.pairwise_cons.1 h
    have ih := tick_one T k a b t h2
    by_cases hp : pAt k a b t x = true
    · have hh : hk x k a b = true := by unfold pAt at hp; simp only [Bool.and_eq_true] at hp; exact hp.1
      have ho : op x t = true := by unfold pAt at hp; simp only [Bool.and_eq_true] at hp; exact hp.2
      have hz : tick T k a b t (t + 1) = 0 := tick_zero fun y hy hk' => by
        rw [cov_one, if_neg]
        intro hoy
        have := at_two hp (y := y) (by unfold pAt; rw [hk', hoy]; rfl)
        rw [h1 y hy] at this
        cases this
      rw [List.find?_cons_of_pos hp]
      unfold tick
      rw [List.filter_cons_of_pos (show pTicks k a b x = true from hh)]
      show cov t (t + 1) x + tick T k a b t (t + 1) = _
      rw [hz, cov_one, if_pos ho]
      rfl
    · rw [List.find?_cons_of_neg hp, ← ih]
      unfold tick
      by_cases hh : pTicks k a b x = true
      · rw [List.filter_cons_of_pos hh]
        show cov t (t + 1) x + _ = _
        rw [cov_one, if_neg]
        · omega
        · intro ho
          exact hp (by unfold pAt; rw [show hk x k a b = true from hh, ho]; rfl)
      · rw [List.filter_cons_of_neg hh]
end Q
namespace Pw
open H
set_option linter.unusedVariables false
set_option linter.unusedSimpArgs false
set_option maxRecDepth 100000
theorem tick_gn {T : List Q.Wn} (hm : T.Pairwise (fun y z => Q.meet y z = false)) (hb : ∀ x ∈ T, x.b = 0) (a t sun : Int) : (Q.tick T 3 a 0 t (t + 1) = 1 ∧ gn T a t sun = 0) ∨ (Q.tick T 3 a 0 t (t + 1) = 0 ∧ gn T a t sun = sun) := by
  rw [Q.tick_one T 3 a 0 t hm]
  unfold gn
  have he : (T.find? (Q.pAt 3 a 0 t)).isSome = true ↔ T.any (dk a t) = true := by
    rw [List.find?_isSome, List.any_eq_true]
    constructor
    · rintro ⟨x, hx, h⟩
      refine ⟨x, hx, ?_⟩
      unfold Q.pAt Q.hk Q.op at h
      unfold dk
      simp only [Bool.and_eq_true, decide_eq_true_eq] at h ⊢
      omega
    · rintro ⟨x, hx, h⟩
      refine ⟨x, hx, ?_⟩
      have := hb x hx
      unfold Q.pAt Q.hk Q.op
      unfold dk at h
      simp only [Bool.and_eq_true, decide_eq_true_eq] at h ⊢
      omega
  by_cases h : T.any (dk a t) = true
  · left
    rw [if_pos (he.2 h), if_pos h]
    exact ⟨rfl, rfl⟩
  · right
    rw [if_neg (fun h2 => h (he.1 h2)), if_neg h]
    exact ⟨rfl, rfl⟩
/-- The deficit of the j ticks from f on. -/
def df (T : List Q.Wn) (a e sun f : Int) : Nat → Int
  | 0 => 0
  | j + 1 => df T a e sun f j + (e - gn T a (f + j) sun)
/-- The greatest of the first n. -/
def mx (T : List Q.Wn) (a e sun f : Int) : Nat → Int
  | 0 => 0
  | n + 1 => max (mx T a e sun f n) (df T a e sun f n)
theorem df_front (T : List Q.Wn) (a e sun f : Int) : ∀ j : Nat, df T a e sun f (j + 1) = (e - gn T a f sun) + df T a e sun (f + 1) j
  | 0 => by
    show 0 + (e - gn T a (f + ((0 : Nat) : Int)) sun) = _ + 0
    rw [show f + ((0 : Nat) : Int) = f by omega]
    omega
  | j + 1 => by
    have ih := df_front T a e sun f j
    show df T a e sun f (j + 1) + (e - gn T a (f + ((j + 1 : Nat) : Int)) sun) = _ + (df T a e sun (f + 1) j + (e - gn T a (f + 1 + (j : Int)) sun))
    rw [ih, show f + ((j + 1 : Nat) : Int) = f + 1 + (j : Int) by omega]
    omega
theorem mx_front (T : List Q.Wn) (a e sun f : Int) : ∀ n : Nat, mx T a e sun f (n + 2) = max 0 ((e - gn T a f sun) + mx T a e sun (f + 1) (n + 1))
  | 0 => by
    have h := df_front T a e sun f 0
    show max (max 0 0) (df T a e sun f 1) = max 0 (_ + max 0 0)
    rw [h]
    show max (max 0 0) (_ + 0) = _
    simp
  | n + 1 => by
    have ih := mx_front T a e sun f n
    have h := df_front T a e sun f (n + 1)
    show max (mx T a e sun f (n + 2)) (df T a e sun f (n + 2)) = max 0 (_ + max (mx T a e sun (f + 1) (n + 1)) (df T a e sun (f + 1) (n + 1)))
    rw [ih, h]
    omega
theorem nd_mx (T : List Q.Wn) (a e sun : Int) : ∀ n : Nat, nd T a e sun n = mx T a e sun (endT T 0 - n) (n + 1)
  | 0 => by show (0 : Int) = max 0 0; simp
  | n + 1 => by
    have ih := nd_mx T a e sun n
    have h := mx_front T a e sun (endT T 0 - ((n + 1 : Nat) : Int)) n
    rw [h, show endT T 0 - ((n + 1 : Nat) : Int) + 1 = endT T 0 - n by omega, ← ih]
    show max 0 (nd T a e sun n + e - gn T a (endT T 0 - 1 - n) sun) = _
    rw [show endT T 0 - ((n + 1 : Nat) : Int) = endT T 0 - 1 - n by omega]
    omega
theorem need_mx (T : List Q.Wn) (a e sun f : Int) (h0 : 0 ≤ endT T 0) : need T a e sun f = mx T a e sun f (endT T 0 - f + 1).toNat := by
  unfold need
  by_cases h : f ≤ endT T 0
  · rw [nd_mx, show endT T 0 - (((endT T 0 - f).toNat : Nat) : Int) = f by omega, show (endT T 0 - f + 1).toNat = (endT T 0 - f).toNat + 1 by omega]
  · rw [show (endT T 0 - f).toNat = 0 by omega, show (endT T 0 - f + 1).toNat = 0 by omega]
    rfl
theorem df_tick {T : List Q.Wn} (hm : T.Pairwise (fun y z => Q.meet y z = false)) (hb : ∀ x ∈ T, x.b = 0) (a e sun f : Int) : ∀ j : Nat, (0 ≤ Q.tick T 3 a 0 f (f + j) ∧ Q.tick T 3 a 0 f (f + j) ≤ j) ∧ df T a e sun f j = j * e - (j - Q.tick T 3 a 0 f (f + j)) * sun
  | 0 => by
    have h : Q.tick T 3 a 0 f (f + ((0 : Nat) : Int)) = 0 := Q.tick_zero fun x _ _ => by
      unfold Q.cov
      rw [if_neg (by omega)]
    rw [h]
    exact ⟨by simp, by simp [df]⟩
  | j + 1 => by
    obtain ⟨ih1, ih2⟩ := df_tick hm hb a e sun f j
    have h := Q.tick_add T 3 a 0 (f := f) (m := f + j) (u := f + j + 1) (by omega) (by omega)
    have hd : df T a e sun f (j + 1) = df T a e sun f j + (e - gn T a (f + j) sun) := rfl
    rw [show f + ((j + 1 : Nat) : Int) = f + j + 1 by omega, ← h, hd, ih2]
    have c1 : ((j + 1 : Nat) : Int) = (j : Int) + 1 := by omega
    rw [c1]
    rcases tick_gn hm hb a (f + j) sun with ⟨g1, g2⟩ | ⟨g1, g2⟩ <;> rw [g1, g2]
    · refine ⟨by omega, ?_⟩
      rw [Int.add_mul, show (j : Int) + 1 - (Q.tick T 3 a 0 f (f + j) + 1) = j - Q.tick T 3 a 0 f (f + j) by omega]
      omega
    · refine ⟨by omega, ?_⟩
      rw [Int.add_mul, show (j : Int) + 1 - (Q.tick T 3 a 0 f (f + j) + 0) = (j - Q.tick T 3 a 0 f (f + j)) + 1 by omega, Int.add_mul (j - Q.tick T 3 a 0 f (f + j))]
      omega
/-- Windows of one craft are behind one another. -/
structure TDis (s : Tb) : Prop where
  e0 : ∀ x ∈ s.out, x.a = 0 → x.un ≤ s.e0
  e1 : ∀ x ∈ s.out, x.a = 1 → x.un ≤ s.e1
  dis : s.out.Pairwise (fun y z => Q.meet y z = false)
theorem tstep_dis {s : Tb} (h : TDis s) (hk : TInv s) {n : Int} (hn : 0 ≤ n) : TDis (tstep s n) := by
  have hb := tb_bd hk.ok hn
  have hf : (cr n = 0 → s.e0 ≤ frm s n) ∧ (cr n = 1 → s.e1 ≤ frm s n) := by
    unfold frm fr0
    rcases cr_bd n with hc | hc <;> rw [hc] <;> simp <;> split <;> omega
  refine ⟨fun x hx ha => ?_, fun x hx ha => ?_, ?_⟩
  · show x.un ≤ if cr n = 0 then utl s n else s.e0
    rcases List.mem_append.1 hx with hx | hx
    · have := h.e0 x hx ha
      split <;> rename_i hc
      · have := hf.1 hc; omega
      · omega
    · rw [List.mem_singleton.1 hx] at ha ⊢
      rw [if_pos (show cr n = 0 from ha)]
      exact Int.le_refl _
  · show x.un ≤ if cr n = 0 then s.e1 else utl s n
    rcases List.mem_append.1 hx with hx | hx
    · have := h.e1 x hx ha
      split <;> rename_i hc
      · omega
      · have := hf.2 (by have := cr_bd n; omega); omega
    · rw [List.mem_singleton.1 hx] at ha ⊢
      have ha2 : cr n = 1 := ha
      rw [if_neg (by omega)]
      exact Int.le_refl _
  · show (s.out ++ [win s n]).Pairwise _
    rw [List.pairwise_append]
    refine ⟨h.dis, by simp, fun x hx y hy => ?_⟩
    rw [List.mem_singleton.1 hy]
    have hw := (hk.win x hx).2.2.2.2.2.1
    refine decide_eq_false ?_
    show ¬ ((x.kind = 3 ∧ x.a = cr n ∧ x.b = 0) ∧ x.fr < utl s n ∧ frm s n < x.un)
    rintro ⟨⟨_, ha, _⟩, _, h2⟩
    rcases hw with hw | hw
    · have := h.e0 x hx hw; have := hf.1 (by omega); omega
    · have := h.e1 x hx hw; have := hf.2 (by omega); omega
theorem tabT_dis : ∀ (l : List Int) (s : Tb), (∀ n ∈ l, 0 ≤ n) → TInv s → TDis s → (tabT s l).Pairwise (fun y z => Q.meet y z = false)
  | [], s, _, _, h => h.dis
  | n :: l, s, hl, hk, h => by
    unfold tabT
    split
    · exact h.dis
    · rename_i hu
      exact tabT_dis l (tstep s n) (fun m hm => hl m (by simp [hm])) (tstep_inv hk (hl n (by simp)) hu) (tstep_dis h hk (hl n (by simp)))
theorem tab_dis {l : List Int} (hl : ∀ n ∈ l, 0 ≤ n) : (tabL l).Pairwise (fun y z => Q.meet y z = false) :=
  tabT_dis _ _ (fun n hn => hl n (List.mem_of_mem_take hn)) tb0_inv ⟨fun x hx => by simp [tb0] at hx, fun x hx => by simp [tb0] at hx, by simp [tb0]⟩
theorem tab_b {l : List Int} (hl : ∀ n ∈ l, 0 ≤ n) : ∀ x ∈ tabL l, x.b = 0 := fun x hx => ((tab_all hl).1 x hx).2.2.2.2.2.2
end Pw
end Go.Proofs.Ytobbnbelacncjaa

namespace Go.Proofs.Ytobbnbelacncjaa
open Go.RowKit
namespace Pw
open H
set_option linter.unusedVariables false
set_option linter.unusedSimpArgs false
set_option maxRecDepth 100000
/-- The greatest need of the n ticks from f on. -/
def gm (T : List Q.Wn) (a e sun f : Int) : Nat → Int
  | 0 => 0
  | n + 1 => max (gm T a e sun f n) (need T a e sun (f + n))
theorem need_bd (T : List Q.Wn) (a : Int) {e sun : Int} (he : 0 ≤ e ∧ e ≤ 2147483647) (hs : 0 ≤ sun ∧ sun ≤ 2147483647) (k : Int) : 0 ≤ need T a e sun k := (nd_bd T a he hs _).1
theorem gm_ge (T : List Q.Wn) (a e sun f : Int) : ∀ n : Nat, 0 ≤ gm T a e sun f n
  | 0 => Int.le_refl _
  | n + 1 => by have := gm_ge T a e sun f n; show 0 ≤ max _ _; omega
theorem gm_le (T : List Q.Wn) (a e sun f : Int) : ∀ (n : Nat) (i : Nat), i < n → need T a e sun (f + i) ≤ gm T a e sun f n
  | 0, i, h => absurd h (Nat.not_lt_zero _)
  | n + 1, i, h => by
    show _ ≤ max _ _
    by_cases hi : i = n
    · subst hi; omega
    · have := gm_le T a e sun f n i (by omega); omega
/-- The greatest need after a tick. -/
def gr (T : List Q.Wn) (a e sun tick : Int) : Int := gm T a e sun (tick + 1) (endT T 0 - (tick + 1)).toNat
theorem gr_ge (T : List Q.Wn) (a e sun tick : Int) : 0 ≤ gr T a e sun tick := gm_ge _ _ _ _ _ _
theorem gr_le {T : List Q.Wn} {a e sun tick : Int} {k : Int} (h : tick < k) : need T a e sun k ≤ gr T a e sun tick := by
  by_cases hk : k < endT T 0
  · have h2 := gm_le T a e sun (tick + 1) (endT T 0 - (tick + 1)).toNat (k - (tick + 1)).toNat (by omega)
    rw [show tick + 1 + (((k - (tick + 1)).toNat : Nat) : Int) = k by omega] at h2
    exact h2
  · rw [need_end T a e sun (by omega)]
    exact gr_ge _ _ _ _ _
set_option maxHeartbeats 4000000 in
theorem great_any (T : List Q.Wn) (A : Option Addr) (cap B : Nat) (a f e sun : Int) (w : World) (hB : B ≤ w.heap.size) (hlen : T.length ≤ 1000) (hf : 0 ≤ f ∧ f ≤ 1000000) (he : 0 ≤ e ∧ e ≤ 2147483647) (hs : 0 ≤ sun ∧ sun ≤ 2147483647) (hT : ∀ x ∈ T, Q.Tok x) (hO : SrtF T) (hR : Q.RdsWn w B A T) :
    Calls Try.prog 28 #[.slice A T.length cap, .int .i64 a, .int .i64 f, .int .i64 e, .int .i64 sun] w fun o w' => o = .returned (.int .i64 (gr T a e sun f)) ∧ Below w.heap.size w w' := by
  have hend := endT_bd (T := T) (fun x hx => (hT x hx).un.2) (n := 0) (by omega)
  have HP : Hid (∀ k W, 0 ≤ k ∧ k ≤ 1000001 → Below w.heap.size w W → Calls Try.prog 24 #[.slice A T.length cap, .int .i64 a, .int .i64 k, .int .i64 e, .int .i64 sun] W fun o w' => o = .returned (.int .i64 (need T a e sun k)) ∧ Below W.heap.size W w') := Lib.hid (fun k W hk hW => preserve_any T A cap B a k e sun W (Nat.le_trans hB hW.size) hlen hk he hs hT hO (hR.below (hW.mono hB)))
  have HE : Hid (∀ W, Below w.heap.size w W → Calls Try.prog 27 #[.slice A T.length cap] W fun o w' => o = .returned (.int .i64 (endT T 0)) ∧ Below W.heap.size W w') := Lib.hid (fun W hW => rend_any T A cap B W (Nat.le_trans hB hW.size) (by omega) (hR.below (hW.mono hB)))
  have HM0 : Hid (gm T a e sun (f + 1) 0 = 0) := Lib.hid rfl
  have HMS : Hid (∀ q : Nat, gm T a e sun (f + 1) (q + 1) = max (gm T a e sun (f + 1) q) (need T a e sun (f + 1 + q))) := Lib.hid (fun q => rfl)
  unfold gr
  clear hR hT hO
  generalize T.length = tl at *
  generalize gm T a e sun (f + 1) = M at *
  generalize need T a e sun = F at *
  generalize endT T 0 = E at *
  obtain ⟨cnt, hcnt⟩ : ∃ cnt, (E - (f + 1)).toNat = cnt := ⟨_, rfl⟩
  rw [hcnt]
  go_enter Try.func28, Try.ntmps28
  go_upto_region 3 with fail
  go_loopg [11, 12] cnt (fun g m k wr => ∃ q : Nat, q + g = cnt ∧ m = .int .i64 (M q) ∧ k = .int .i64 (f + 1 + q) ∧ Below w.heap.size w wr)
  case atStart => exact ⟨0, by omega, by rw [HM0.out], by first | (go_num) | (simp), Below.refl _ _⟩
  case round =>
    obtain ⟨q, hg, rfl, rfl, hB2⟩ := hrel
    have BW := Lib.hid hB2
    clear hB2
    obtain ⟨k, hk⟩ : ∃ k, f + 1 + (q : Int) = k := ⟨_, rfl⟩
    rw [hk]
    have HG := Lib.hid hg
    have HK := Lib.hid hk
    by_cases hlt : q < cnt
    · have hki : k < E := by omega
      have hkb : 0 ≤ k ∧ k ≤ 1000000 := by omega
      have hst : M (q + 1) = max (M q) (F k) := by rw [HMS.out, hk]
      have HST := Lib.hid hst
      have HLT := Lib.hid hlt
      have HKB : Hid (0 ≤ k ∧ k ≤ 1000001) := Lib.hid (by omega)
      clear hk hg hlt hst hcnt
      go_wp2_with (first
        | (go_at_call 27; with_reducible refine (HE.out _ BW.out).mono ?_; rintro e w2 ⟨rfl, hB⟩; have B2 := Lib.hid (bt BW.out hB); clear hB)
        | (go_at_call 24; with_reducible refine (HP.out k _ HKB.out B2.out).mono ?_; rintro e w3 ⟨rfl, hB⟩; have B3 := Lib.hid (bt B2.out hB); clear hB))
      go_roundg (gk - 1)
      case measure => have := HG.out; have := HLT.out; omega
      case rel => exact ⟨q + 1, by have := HG.out; have := HLT.out; omega, by first | rfl | (rw [HST.out]), by have := HK.out; go_num, B3.out⟩
    · have hki : ¬ k < E := by omega
      have hqe : q = cnt := by omega
      subst hqe
      clear hg hk hcnt
      go_wp2_with (go_at_call 27; with_reducible refine (HE.out _ BW.out).mono ?_; rintro e w2 ⟨rfl, hB⟩; have B2 := Lib.hid (bt BW.out hB); clear hB)
      go_ret
      exact ⟨rfl, B2.out⟩
theorem gn_find {T : List Q.Wn} (hb : ∀ x ∈ T, x.b = 0) (a t sun : Int) : (T.find? (Q.pAt 3 a 0 t) = none ∧ gn T a t sun = sun) ∨ (∃ x, T.find? (Q.pAt 3 a 0 t) = some x ∧ gn T a t sun = 0) := by
  unfold gn
  cases h : T.find? (Q.pAt 3 a 0 t) with
  | none =>
    left
    refine ⟨rfl, if_neg fun h2 => ?_⟩
    obtain ⟨x, hx, hd⟩ := List.any_eq_true.1 h2
    have h3 := List.find?_eq_none.1 h x hx
    have := hb x hx
    unfold Q.pAt Q.hk Q.op at h3
    unfold dk at hd
    simp only [Bool.and_eq_true, decide_eq_true_eq] at h3 hd
    omega
  | some x =>
    right
    refine ⟨x, rfl, if_pos (List.any_eq_true.2 ⟨x, List.mem_of_find?_eq_some h, ?_⟩)⟩
    have h3 := List.find?_some h
    unfold Q.pAt Q.hk Q.op at h3
    unfold dk
    simp only [Bool.and_eq_true, decide_eq_true_eq] at h3 ⊢
    omega
set_option maxHeartbeats 4000000 in
theorem gain_any (T : List Q.Wn) (A : Option Addr) (cap B : Nat) (a t sun : Int) (w : World) (hB : B ≤ w.heap.size) (hlen : T.length ≤ 1000) (hb : ∀ x ∈ T, x.b = 0) (hR : Q.RdsWn w B A T) :
    Calls Try.prog 30 #[.slice A T.length cap, .int .i64 a, .int .i64 t, .int .i64 sun] w fun o w' => o = .returned (.int .i64 (gn T a t sun)) ∧ Below w.heap.size w w' := by
  have HA := Lib.hid (Q.pAt_any T A cap B 3 a 0 t w hB (by omega) hR)
  unfold Q.fstV at HA
  clear hR
  rcases gn_find hb a t sun with ⟨hf, hg⟩ | ⟨x, hf, hg⟩
  · rw [hf] at HA
    rw [hg]
    clear hf hg hb
    generalize T.length = tl at *
    go_enter Try.func30, Try.ntmps30
    go_wp2_with (go_at_call 45; refine HA.out.mono ?_; rintro e w2 ⟨rfl, hB⟩; have B2 := Lib.hid hB; clear hB)
    go_ret
    exact ⟨rfl, bt B2.out (bel1 _ _)⟩
  · rw [hf] at HA
    rw [hg]
    clear hf hg hb
    obtain ⟨x0, x1, x2, x3, x4, x5⟩ := x
    generalize T.length = tl at *
    go_enter Try.func30, Try.ntmps30
    go_wp2_with (go_at_call 45; refine HA.out.mono ?_; rintro e w2 ⟨rfl, hB⟩; have B2 := Lib.hid hB; clear hB)
    go_ret
    exact ⟨rfl, bt B2.out (bel1 _ _)⟩
end Pw
end Go.Proofs.Ytobbnbelacncjaa

namespace Go.Proofs.Ytobbnbelacncjaa
open Go.RowKit
namespace Pw
open H
set_option linter.unusedVariables false
set_option linter.unusedSimpArgs false
set_option maxRecDepth 100000
theorem esum_app (L M : List Ld) : esum (L ++ M) = esum L + esum M := by
  induction L with
  | nil => show esum M = 0 + esum M; omega
  | cons x L ih => show _ + esum (L ++ M) = _ + esum L + esum M; rw [ih]; omega
theorem esum_rev (L : List Ld) : esum L.reverse = esum L := by
  induction L with
  | nil => rfl
  | cons x L ih =>
    rw [List.reverse_cons, esum_app, ih]
    show esum L + (_ + 0) = _ + esum L
    omega
theorem esum_insR (L : List Ld) (x : Ld) : esum (insR L x) = esum L + (if x.ess = true then x.pow else 0) := by
  induction L with
  | nil => show _ + (0 : Int) = 0 + _; omega
  | cons y L ih =>
    unfold insR
    split
    · show _ + esum (insR L x) = _ + esum L + _
      rw [ih]; omega
    · show _ + (_ + esum L) = _ + esum L + _
      omega
theorem esum_ord (L : List Ld) : esum (ord L) = esum L := by
  have h : ∀ (L M : List Ld), esum (L.foldl insL M) = esum M + esum L := by
    intro L
    induction L with
    | nil => intro M; show esum M = esum M + 0; omega
    | cons x L ih =>
      intro M
      show esum (L.foldl insL (insL M x)) = _ + (_ + esum L)
      rw [ih]
      unfold insL
      rw [esum_rev, esum_insR, esum_rev]
      omega
  have h2 := h L []
  unfold ord
  rw [h2]
  show 0 + _ = _
  omega
theorem esum_nn {L : List Ld} (h : ∀ x ∈ L, 0 ≤ x.pow) : 0 ≤ esum L := by
  induction L with
  | nil => exact Int.le_refl _
  | cons x L ih =>
    have := ih (fun y hy => h y (by simp [hy]))
    have := h x (by simp)
    show 0 ≤ _ + esum L
    split <;> omega
theorem esum_none {L : List Ld} (h : ∀ x ∈ L, x.ess = false) : esum L = 0 := by
  induction L with
  | nil => rfl
  | cons x L ih =>
    show _ + esum L = 0
    rw [ih (fun y hy => h y (by simp [hy])), h x (by simp)]
    rfl
theorem run_keeps {res n : Int} (hn : 0 ≤ n) (hr : n ≤ res) : ∀ (L : List Ld) (s : St), Srt L → (∀ x ∈ L, 0 ≤ x.pow) → s.br = false → esum L + n ≤ s.chg → (run res s L).br = false ∧ n ≤ (run res s L).chg
  | [], s, _, _, hb, hc => ⟨hb, by have : esum [] = 0 := rfl; show n ≤ s.chg; omega⟩
  | x :: L, s, hS, hp, hb, hc => by
    obtain ⟨h1, h2⟩ := List.pairwise_cons.1 hS
    have hp2 : ∀ y ∈ L, 0 ≤ y.pow := fun y hy => hp y (by simp [hy])
    have he : esum (x :: L) = (if x.ess = true then x.pow else 0) + esum L := rfl
    have hnn := esum_nn hp2
    have hx := hp x (by simp)
    show (run res (turn res s x) L).br = false ∧ n ≤ (run res (turn res s x) L).chg
    rcases Bool.eq_false_or_eq_true x.ess with hess | hess
    · rw [he, if_pos hess] at hc
      unfold turn
      rw [if_pos hess, if_neg (by omega)]
      exact run_keeps hn hr L _ h2 hp2 hb (by dsimp only; omega)
    · have hall : ∀ y ∈ L, y.ess = false := fun y hy => by
        have h3 := h1 y hy
        unfold bef at h3
        rcases Bool.eq_false_or_eq_true y.ess with hy2 | hy2
        · rw [hess, hy2] at h3; simp at h3
        · exact hy2
      have h0 := esum_none hall
      rw [he, if_neg (by rw [hess]; simp), h0] at hc
      unfold turn
      rw [if_neg (by rw [hess]; simp)]
      split
      · exact run_keeps hn hr L _ h2 hp2 hb (by rw [h0]; omega)
      · exact run_keeps hn hr L _ h2 hp2 hb (by rw [h0]; dsimp only; omega)
theorem tick_keeps {b : Bt} {T : List Q.Wn} {L : List Ld} {a sun k : Int} (hok : b.ok = true) (hd : Dif L) (hp : ∀ x ∈ L, 0 ≤ x.pow ∧ x.pow ≤ 2147483647) (hs : 0 ≤ sun) (hk : k < endT T 0) (h1 : need T a (esum L) sun k ≤ b.chg) (h2 : need T a (esum L) sun (k + 1) ≤ b.res) (h3 : b.res + esum L ≤ b.cap) :
    (tickS b (gn T a k sun) L).br = false ∧ need T a (esum L) sun (k + 1) ≤ (tickS b (gn T a k sun) L).chg := by
  have hst := need_step T a (esum L) sun hk
  have hnn := need_nn T a (esum L) sun (k + 1)
  have hes := esum_nn (L := L) (fun x hx => (hp x hx).1)
  have hb := hok
  unfold Bt.ok at hb
  simp only [decide_eq_true_eq] at hb
  have hg := gn_bd T a k (sun := sun) (c := sun) ⟨hs, Int.le_refl _⟩
  unfold tickS
  refine run_keeps hnn h2 (ord L) (st0 b (gn T a k sun)) (ord_srt hd) (fun x hx => (hp x (mem_ord.1 hx)).1) rfl ?_
  rw [esum_ord]
  show _ ≤ b.chg + gained b (gn T a k sun)
  unfold gained
  omega
theorem tick_in {b : Bt} {L : List Ld} {g : Int} (hok : b.ok = true) (hg : 0 ≤ g) (hp : ∀ x ∈ L, 0 ≤ x.pow ∧ x.pow ≤ 2147483647) : 0 ≤ (tickS b g L).chg ∧ (tickS b g L).chg ≤ b.cap := by
  have hb := hok
  unfold Bt.ok at hb
  simp only [decide_eq_true_eq] at hb
  exact (run_ok (s := st0 b g) hb.1 (fun x hx => hp x (mem_ord.1 hx)) (st0_ok hok hg)).chg
theorem nd_bd2 (T : List Q.Wn) (a : Int) {e sun c : Int} (he : 0 ≤ e ∧ e ≤ c) (hs : 0 ≤ sun) : ∀ n : Nat, 0 ≤ nd T a e sun n ∧ nd T a e sun n ≤ c * n
  | 0 => by simp [nd]
  | n + 1 => by
    have ih := nd_bd2 T a he hs n
    have hg := gn_bd T a (endT T 0 - 1 - n) (sun := sun) (c := sun) ⟨hs, Int.le_refl _⟩
    have e1 : c * ((n + 1 : Nat) : Int) = c * n + c := by rw [Int.natCast_add, Int.mul_add]; simp
    rw [e1]
    show 0 ≤ max 0 (nd T a e sun n + e - gn T a (endT T 0 - 1 - n) sun) ∧ max 0 (nd T a e sun n + e - gn T a (endT T 0 - 1 - n) sun) ≤ _
    omega
theorem need_bd2 {T : List Q.Wn} {a e sun c k : Int} (he : 0 ≤ e ∧ e ≤ c) (hs : 0 ≤ sun) (hk : 0 ≤ k) (hE : endT T 0 ≤ 1000) : 0 ≤ need T a e sun k ∧ need T a e sun k ≤ c * 1000 := by
  have h := nd_bd2 T a he hs (endT T 0 - k).toNat
  have h2 : c * (((endT T 0 - k).toNat : Nat) : Int) ≤ c * 1000 := Int.mul_le_mul_of_nonneg_left (by omega) (by omega)
  unfold need
  omega
theorem gm_bd2 {T : List Q.Wn} {a e sun c f : Int} (he : 0 ≤ e ∧ e ≤ c) (hs : 0 ≤ sun) (hf : 0 ≤ f) (hE : endT T 0 ≤ 1000) : ∀ n : Nat, 0 ≤ gm T a e sun f n ∧ gm T a e sun f n ≤ c * 1000
  | 0 => ⟨Int.le_refl _, Int.mul_nonneg (by omega) (by omega)⟩
  | n + 1 => by
    have h1 := gm_bd2 (a := a) he hs hf hE n
    have h2 := need_bd2 (T := T) (a := a) he hs (show 0 ≤ f + (n : Int) by omega) hE
    show 0 ≤ max _ _ ∧ max _ _ ≤ _
    omega
theorem gr_bd2 {T : List Q.Wn} {a e sun c f : Int} (he : 0 ≤ e ∧ e ≤ c) (hs : 0 ≤ sun) (hf : 0 ≤ f) (hE : endT T 0 ≤ 1000) : 0 ≤ gr T a e sun f ∧ gr T a e sun f ≤ c * 1000 := gm_bd2 he hs (by omega) hE _
theorem esum_le {L : List Ld} {c : Int} (h : ∀ x ∈ L, 0 ≤ x.pow ∧ x.pow ≤ c) (hc : 0 ≤ c) : 0 ≤ esum L ∧ esum L ≤ c * L.length := by
  induction L with
  | nil => exact ⟨Int.le_refl _, by simp [esum]⟩
  | cons x L ih =>
    have h1 := ih (fun y hy => h y (by simp [hy]))
    have h2 := h x (by simp)
    simp only [esum, List.length_cons]
    rw [show c * ((L.length + 1 : Nat) : Int) = c * L.length + c by rw [Int.natCast_add, Int.mul_add]; simp]
    split <;> omega
end Pw
end Go.Proofs.Ytobbnbelacncjaa

namespace Go.Proofs.Ytobbnbelacncjaa
open Go.RowKit
namespace Pw
open H
set_option linter.unusedVariables false
set_option linter.unusedSimpArgs false
set_option maxRecDepth 100000
theorem sv_ok2 (T : List Q.Wn) (a : Int) {e sun cap f chg : Int} (hs : 0 ≤ sun) (h0 : need T a e sun f ≤ chg) (hc : gr T a e sun f + e ≤ cap) (hf : f ≤ endT T 0) : (sv T a e sun cap f chg (endT T 0 - f).toNat).isSome = true := by
  obtain ⟨c, h, _⟩ := sv_ok (cap := cap) T a hs h0 (fun k h1 _ => by have := gr_le (T := T) (a := a) (e := e) (sun := sun) h1; omega) (endT T 0 - f).toNat (by omega)
  rw [h]
  rfl
/-- The need is the least charge. -/
theorem least_ok (T : List Q.Wn) (a : Int) {e sun f : Int} (hs : 0 ≤ sun) (hf : f < endT T 0) : (sv T a e sun (max (need T a e sun f) (gr T a e sun f + e)) f (need T a e sun f) (endT T 0 - f).toNat).isSome = true :=
  sv_ok2 T a hs (Int.le_refl _) (by omega) (by omega)
theorem least_no (T : List Q.Wn) (a : Int) {e sun f cap : Int} (he : 0 ≤ e) (hs : 0 ≤ sun ∧ sun ≤ 2147483647) (hf : f < endT T 0) (hn : need T a e sun f ≠ 0) (hc : need T a e sun f ≤ cap) : (sv T a e sun cap f (need T a e sun f - 1) (endT T 0 - f).toNat).isSome = false := by
  have := need_nn T a e sun f
  rw [sv_no T a he hs (by omega) (by omega) (by omega)]
  rfl
/-- More of what helps, less of what harms, and a period that ends earlier. -/
theorem sv_more (T : List Q.Wn) (a : Int) {e e' sun sun' cap cap' f chg chg' : Int} (he : e' ≤ e) (hs : 0 ≤ sun ∧ sun ≤ sun') (hc : cap ≤ cap') (hg : chg ≤ chg') {n m : Nat} (hm : m ≤ n) (h : (sv T a e sun cap f chg n).isSome = true) : (sv T a e' sun' cap' f chg' m).isSome = true := by
  have h2 := sv_less T a e sun cap f chg h hm
  cases hq : sv T a e sun cap f chg m with
  | none => rw [hq] at h2; cases h2
  | some c =>
    obtain ⟨c', h3, _⟩ := sv_mono T a (e := e) (e' := e') (sun := sun) (sun' := sun') (cap := cap) (cap' := cap') (f := f) he hs hc hg m c hq
    rw [h3]
    rfl
/-- A tick with one essential load. -/
theorem one_tick (b : Bt) (i p : Int) {g e : Int} (hok : b.ok = true) (hg : 0 ≤ g) : (min b.cap (b.chg + g) < e ∧ (tickS b g [⟨i, e, p, true⟩]).br = true) ∨ (¬ min b.cap (b.chg + g) < e ∧ (tickS b g [⟨i, e, p, true⟩]).br = false ∧ (tickS b g [⟨i, e, p, true⟩]).chg = min b.cap (b.chg + g) - e) := by
  have hb := hok
  unfold Bt.ok at hb
  simp only [decide_eq_true_eq] at hb
  have h : tickS b g [⟨i, e, p, true⟩] = turn b.res (st0 b g) ⟨i, e, p, true⟩ := rfl
  rw [h]
  have hc : (st0 b g).chg = min b.cap (b.chg + g) := by show b.chg + gained b g = _; unfold gained; omega
  unfold turn
  rw [if_pos rfl, hc]
  by_cases hl : min b.cap (b.chg + g) < e
  · left
    rw [if_pos (by show min b.cap (b.chg + g) - e < 0; omega)]
    exact ⟨hl, rfl⟩
  · right
    rw [if_neg (by show ¬ min b.cap (b.chg + g) - e < 0; omega)]
    exact ⟨hl, rfl, rfl⟩
/-- What the loop of ticks holds after n ticks: the charge of the battery that lives, or a brownout. -/
def Lives (T : List Q.Wn) (a e sun cap f chg : Int) (n : Nat) (c : Int) (brown : Bool) : Prop := (brown = false ∧ sv T a e sun cap f chg n = some c) ∨ (brown = true ∧ sv T a e sun cap f chg n = none)
theorem lives_next {T : List Q.Wn} {a e sun cap res f chg c : Int} {n : Nat} {br : Bool} (i p : Int) (hok : (⟨cap, c, res⟩ : Bt).ok = true) (hs : 0 ≤ sun) (h : Lives T a e sun cap f chg n c br) : Lives T a e sun cap f chg (n + 1) (tickS ⟨cap, c, res⟩ (gn T a (f + n) sun) [⟨i, e, p, true⟩]).chg (br || (tickS ⟨cap, c, res⟩ (gn T a (f + n) sun) [⟨i, e, p, true⟩]).br) := by
  have hg := gn_bd T a (f + n) (sun := sun) (c := sun) ⟨hs, Int.le_refl _⟩
  have ht := one_tick ⟨cap, c, res⟩ i p (g := gn T a (f + n) sun) (e := e) hok hg.1
  dsimp only at ht
  rcases h with ⟨rfl, h⟩ | ⟨rfl, h⟩
  · rcases ht with ⟨h1, h2⟩ | ⟨h1, h2, h3⟩
    · right
      refine ⟨by rw [h2]; rfl, ?_⟩
      unfold sv
      rw [h]
      dsimp only
      rw [if_pos h1]
    · left
      refine ⟨by rw [h2]; rfl, ?_⟩
      unfold sv
      rw [h]
      dsimp only
      rw [if_neg h1, h3]
  · right
    refine ⟨rfl, ?_⟩
    unfold sv
    rw [h]
theorem lives_end {T : List Q.Wn} {a e sun cap f chg c : Int} {n : Nat} {br : Bool} (h : Lives T a e sun cap f chg n c br) : (sv T a e sun cap f chg n).isSome = !br := by
  rcases h with ⟨rfl, h⟩ | ⟨rfl, h⟩ <;> rw [h] <;> rfl
end Pw
end Go.Proofs.Ytobbnbelacncjaa
