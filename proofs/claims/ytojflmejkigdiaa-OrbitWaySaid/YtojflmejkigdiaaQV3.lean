/-
  Hops: their ends.
-/
import Derived.Test.YtojflmejkigdiaaQV2
namespace Go.Proofs.Ytojflmejkigdiaa
open Go.RowKit
namespace Q
open H
set_option linter.unusedVariables false
set_option linter.unusedSimpArgs false
set_option maxRecDepth 100000
theorem bt {A B C : World} (h : Below A.heap.size A B) (k : Below B.heap.size B C) : Below A.heap.size A C := h.trans (k.mono h.size)
/-- A hop. -/
structure Hp where
  src : Int
  dst : Int
  w : Wn
abbrev Hp.v (h : Hp) : Value := .agg #[.int .i64 h.src, .int .i64 h.dst, .int .i64 h.w.kind, .int .i64 h.w.a, .int .i64 h.w.b, .int .i64 h.w.fr, .int .i64 h.w.un, .int .i64 h.w.rate]
/-- When a window may be used at t. -/
def beg (x : Wn) (t : Int) : Int := max x.fr t
/-- A window whose hops can be computed. -/
structure Lok (x : Wn) : Prop where
  rate : 1 ≤ x.rate ∧ x.rate ≤ 1000
  fr : 0 ≤ x.fr ∧ x.fr ≤ 1000000
  un : 0 ≤ x.un ∧ x.un ≤ 1000000
  b : 0 ≤ x.b ∧ x.b < 12
  a : 0 ≤ x.a ∧ x.a < 12
theorem dur_bd {x : Wn} (h : Lok x) {size : Int} (hs : 1 ≤ size) : 1 ≤ dur x size ∧ dur x size ≤ size := by
  have := dv_bd (c := size - 1) (by omega) h.rate.1
  unfold dur
  omega
def hend' (x : Wn) (t size : Int) : Int := if x.un < beg x t + dur x size then 1000001 else beg x t + dur x size
set_option maxHeartbeats 2000000 in
theorem pend_any (h : Hp) (t size : Int) (w : World) (hok : Lok h.w) (ht : 0 ≤ t ∧ t ≤ 1000001) (hs : 1 ≤ size ∧ size ≤ 100000) :
    Calls Try.prog 66 #[h.v, .int .i64 t, .int .i64 size] w fun e w' => e = .returned (.int .i64 (hend' h.w t size)) ∧ Below w.heap.size w w' := by
  obtain ⟨f, g, x⟩ := h
  obtain ⟨k, a, b, fr, un, r⟩ := x
  have hr := hok.rate
  have hfr := hok.fr
  have hun := hok.un
  dsimp only at hr hfr hun
  have e1 : (size - 1).tdiv r = (size - 1) / r := Int.tdiv_eq_ediv_of_nonneg (by omega)
  have hq := dv_bd (c := size - 1) (by omega) hr.1
  have hz : ¬ r = 0 := by omega
  have hv : hend' ⟨k, a, b, fr, un, r⟩ t size = if un < max fr t + ((size - 1) / r + 1) then 1000001 else max fr t + ((size - 1) / r + 1) := rfl
  dsimp only
  rw [hv]
  clear hv hok
  generalize (size - 1) / r = q at *
  by_cases hc : un < max fr t + (q + 1)
  · rw [if_pos hc]
    have hc2 : un - (q + 1) < max fr t := by omega
    clear hc
    go_enter Try.func66, Try.ntmps66
    go_wp2_with fail
    go_ret
    exact ⟨rfl, bel1 w _⟩
  · rw [if_neg hc]
    have hc2 : ¬ un - (q + 1) < max fr t := by omega
    have hm : 0 ≤ max fr t ∧ max fr t ≤ 1000001 := by omega
    clear hc
    go_enter Try.func66, Try.ntmps66
    go_wp2_with fail
    go_ret
    exact ⟨rfl, bel1 w _⟩
/-- Can the window be used from a node to another one? -/
def via (x : Wn) (f t : Int) : Bool := decide (lk x = true ∧ ((x.a = f ∧ far x = t) ∨ (x.a = t ∧ far x = f)) ∧ f < 12)
set_option maxHeartbeats 4000000 in
theorem rhop_any (x : Wn) (f t k size : Int) (w : World) (hok : lk x = true → Lok x) (hb : -1000 ≤ x.b ∧ x.b ≤ 1000) (hk : 0 ≤ k ∧ k ≤ 1000001) (hs : 1 ≤ size ∧ size ≤ 100000) :
    Calls Try.prog 57 #[x.v, .int .i64 f, .int .i64 t, .int .i64 k, .int .i64 size] w fun e w' => e = .returned (if via x f t = true then .tuple #[.int .i64 (beg x k + dur x size), .bool (decide (beg x k + dur x size ≤ x.un))] else .tuple #[.int .i64 0, .bool false]) ∧ Below w.heap.size w w' := by
  have HE := Lib.hid (fun W => rends_any x W hb)
  have N0 := Bx.new w x 31
  have hvd : via x f t = decide (lk x = true ∧ ((x.a = f ∧ far x = t) ∨ (x.a = t ∧ far x = f)) ∧ f < 12) := rfl
  rw [hvd]
  clear hvd
  cases hl : lk x with
  | false =>
    rw [hl] at HE
    rw [if_neg (by simp)]
    clear hl hok hb
    generalize far x = g at *
    go_enter Try.func57, Try.ntmps57
    go_wp2_with (go_at_call 69; with_reducible refine (HE.out _).mono ?_; rintro e w2 ⟨rfl, hB2⟩)
    all_goals refine bodyPost_ret (v := .tuple #[.int .i64 0, .bool false]) (by simp [results, Try.results57, go_sem, *]) rfl ?_
    all_goals exact ⟨rfl, belT _ hB2⟩
  | true =>
    rw [hl] at HE
    have lok := hok hl
    have hd := dur_bd lok hs.1
    have hfr := lok.fr
    have hun := lok.un
    have hr := lok.rate
    have HC : Hid (∀ W, Calls Try.prog 71 #[.int .i64 size, .int .i64 x.rate] W fun e w' => e = .returned (.int .i64 (dur x size)) ∧ Below W.heap.size W w') := Lib.hid (fun W => ceil_any size x.rate W hs.1 (by omega) hr.1 (by omega))
    clear hl hok hb lok hr
    generalize dur x size = d at *
    generalize far x = g at *
    by_cases hv : (x.a = f ∧ g = t ∨ x.a = t ∧ g = f) ∧ f < 12
    · rw [if_pos (by simp [hv])]
      have hbg : beg x k = max x.fr k := rfl
      rw [hbg]
      clear hbg
      have hm : 0 ≤ max x.fr k ∧ max x.fr k ≤ 1000001 := by omega
      have hmc : max k x.fr = max x.fr k := by omega
      have hw : IntKind.i64.wrap (max x.fr k + d) = max x.fr k + d := IntWalk.i64_in _ (by omega)
      go_enter Try.func57, Try.ntmps57
      go_wp2_with (go_at_call 69; with_reducible refine (HE.out _).mono ?_; rintro e w2 ⟨rfl, hB2⟩; have N2 := N0.call hB2)
      all_goals first
        | (exfalso; simp only [beq_iff_eq, bne_iff_ne, ne_eq, bne_eq_false_iff_eq, beq_eq_false_iff_ne] at *; omega)
        | skip
      all_goals have N3 := N2.call (below_drew _)
      all_goals have k3 := N3.c3
      all_goals have k5 := N3.c5
      all_goals go_region_held3 (fun W => W.cell? ⟨w.heap.size, 3, none⟩ = some (.int .i64 x.fr) ∧ W.cell? ⟨w.heap.size, 5, none⟩ = some (.int .i64 x.rate)) (with_reducible (first | exact ⟨k3, k5⟩ | exact ⟨q3, q5⟩))
        ((go_at_call 71; with_reducible refine (HC.out _).mono ?_; rintro e w3 ⟨rfl, hB3⟩; have N4 := N3.call hB3; have k4 := N4.c4; have q3 := N4.c3; have q5 := N4.c5))
      all_goals go_wp2_with fail
      all_goals go_region
      all_goals go_wp2_with fail
      all_goals refine bodyPost_ret (v := .tuple #[.int .i64 (max x.fr k + d), .bool (decide (max x.fr k + d ≤ x.un))]) (by simp [results, Try.results57, go_sem, *]) rfl ?_
      all_goals exact ⟨rfl, (belT _ (bt (bt hB2 (below_drew _)) hB3)).drew⟩
    · rw [if_neg (by simpa using hv)]
      go_enter Try.func57, Try.ntmps57
      go_wp2_with (go_at_call 69; with_reducible refine (HE.out _).mono ?_; rintro e w2 ⟨rfl, hB2⟩)
      all_goals first
        | (refine bodyPost_ret (v := .tuple #[.int .i64 0, .bool false]) (by simp [results, Try.results57, go_sem, *]) rfl ?_; exact ⟨rfl, belT _ hB2⟩)
        | (exfalso; simp only [beq_iff_eq, bne_iff_ne, ne_eq, bne_eq_false_iff_eq, beq_eq_false_iff_ne] at *; omega)
end Q
end Go.Proofs.Ytojflmejkigdiaa
