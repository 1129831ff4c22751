/-
  The specification's counters and windows; how the laws make intervals, drifts, counts and correlations of numbers.
-/
import Derived.Test.YtlmbpbhdbgadjaaKBun
import Derived.Test.YtlmbpbhdbgadjaaAround
namespace Go.Proofs.Ytlmbpbhdbgadjaa
open Go.RowKit
namespace K
open H
set_option linter.unusedVariables false
set_option maxRecDepth 100000
set_option maxHeartbeats 1000000 in
theorem rjudge_any (lo hi a b : Int) (w : World) : Calls Try.prog 27 #[iv lo hi, .int .i64 a, .int .i64 b] w fun e w' => e = .returned (.int .i64 (jud lo hi a b)) ∧ Below w.heap.size w w' := by
  unfold jud
  go_enter Try.func27, Try.ntmps27
  go_wp2_with fail
  all_goals
    go_ret
    exact ⟨rfl, (Below.refl _ w).alloc (Nat.le_refl _) _⟩
set_option maxHeartbeats 1000000 in
theorem runwrap_any (a b : Int) (w : World) (ha : 0 ≤ a) (ha2 : a ≤ 1099511627776) (hb : -9223372036854775808 ≤ b) (hb2 : b ≤ 9223372036854775807) : Calls Try.prog 25 #[.int .i64 a, .int .i64 b] w fun e w' => e = .returned (.int .i64 (unw a b)) ∧ w' = w := by
  have e1 : a.tmod 65536 = a % 65536 := Int.tmod_eq_emod_of_nonneg ha
  obtain ⟨R, hR⟩ : ∃ R, b.tmod 65536 = R := ⟨_, rfl⟩
  obtain ⟨A, hA⟩ : ∃ A, a % 65536 = A := ⟨_, rfl⟩
  have hRd : R = if 0 ≤ b then b % 65536 else -((-b) % 65536) := by
    rw [← hR]
    split
    · exact Int.tmod_eq_emod_of_nonneg (by omega)
    · rw [show b = - -b by omega, Int.neg_tmod, Int.tmod_eq_emod_of_nonneg (by omega)]; simp
  have hRb : -65536 < R ∧ R < 65536 := by split at hRd <;> omega
  have hAb : 0 ≤ A ∧ A < 65536 ∧ A ≤ a := by omega
  rw [hA] at e1
  have hu : unw a b = if a - A + (if R < 0 then R + 65536 else R) < a then a - A + (if R < 0 then R + 65536 else R) + 65536 else a - A + (if R < 0 then R + 65536 else R) := by
    unfold unw
    have hm : b % 65536 = (if R < 0 then R + 65536 else R) := by split at hRd <;> split <;> omega
    generalize (if R < 0 then R + 65536 else R) = m at *
    split <;> omega
  rw [hu]
  clear hu hb hb2 hA hRd
  by_cases hn : R < 0
  · simp only [if_pos hn]
    by_cases hn2 : a - A + (R + 65536) < a
    · simp only [if_pos hn2]
      go_enter Try.func25, Try.ntmps25
      go_wp2_with fail
      go_ret
      exact ⟨rfl, rfl⟩
    · simp only [if_neg hn2]
      go_enter Try.func25, Try.ntmps25
      go_wp2_with fail
      go_ret
      exact ⟨rfl, rfl⟩
  · simp only [if_neg hn]
    by_cases hn2 : a - A + R < a
    · simp only [if_pos hn2]
      go_enter Try.func25, Try.ntmps25
      go_wp2_with fail
      go_ret
      exact ⟨rfl, rfl⟩
    · simp only [if_neg hn2]
      go_enter Try.func25, Try.ntmps25
      go_wp2_with fail
      go_ret
      exact ⟨rfl, rfl⟩
theorem heap_top2 (w : World) (A o : Obj) : ((w.alloc A).alloc o).heap[w.heap.size + 1]? = some o := by
  have h := heap_top (w.alloc A) o
  simpa using h
theorem below2 {w W : World} {A B : Obj} (h : Below ((w.alloc A).alloc B).heap.size ((w.alloc A).alloc B) W) : Below w.heap.size w W :=
  (((Below.refl _ w).alloc (Nat.le_refl _) A).alloc (by simp) B).trans (h.mono (by simp; omega))
/-- What fits an int. -/
abbrev I64 (a : Int) : Prop := -9223372036854775808 ≤ a ∧ a ≤ 9223372036854775807
/-- An interval made of two numbers. -/
def tlo (a : Int) : Int := around a 1000001
def thi (a b : Int) : Int := tlo a + around b (1000001 - tlo a)
theorem t_bd (a b : Int) : 0 ≤ tlo a ∧ tlo a ≤ thi a b ∧ thi a b ≤ 1000000 := by
  have h1 := around_lt a (m := 1000001) (by omega)
  have h2 := around_lt b (m := 1000001 - tlo a) (by unfold tlo; omega)
  unfold thi tlo at *
  omega
set_option maxHeartbeats 1000000 in
theorem time_any (a b : Int) (w : World) (ha : I64 a) (hb : I64 b) : Calls Try.prog 44 #[.int .i64 a, .int .i64 b] w fun e w' => e = .returned (iv (tlo a) (thi a b)) ∧ Below w.heap.size w w' := by
  have HA := Lib.hid (fun W => around_any a 1000001 ha.1 ha.2 (by omega) (by omega) W)
  have h1 := around_lt a (m := 1000001) (by omega)
  have htl : around a 1000001 = tlo a := rfl
  have hth : thi a b = tlo a + around b (1000001 - tlo a) := rfl
  rw [htl] at HA h1
  rw [hth]
  have HB : Hid (∀ m, m = 1000001 - tlo a → ∀ W, Calls Try.prog 23 #[.int .i64 b, .int .i64 m] W fun e w' => e = .returned (.int .i64 (around b (1000001 - tlo a))) ∧ w' = W) := Lib.hid (by
    intro m hm W
    subst hm
    exact around_any b (1000001 - tlo a) hb.1 hb.2 (by omega) (by omega) W)
  have h2 := around_lt b (m := 1000001 - tlo a) (by omega)
  generalize around b (1000001 - tlo a) = y at *
  clear htl hth ha hb
  generalize tlo a = x at *
  go_enter Try.func44, Try.ntmps44
  go_wp2_with (go_at_call 23; with_reducible (first | (refine (HA.out _).mono ?_; rintro e w2 ⟨rfl, rfl⟩) | (refine (HB.out _ (by omega) _).mono ?_; rintro e w2 ⟨rfl, rfl⟩)))
  refine bodyPost_ret (v := iv x (x + y)) (by simp [results, Try.results44, go_sem, *]) rfl ⟨rfl, ?_⟩
  exact (Below.refl _ w).alloc (Nat.le_refl _) _
/-- A drift, a number of counts. -/
def drf (n : Int) : Int := 1 + around n 1000000
def cnt (n : Int) : Int := around n 274877906944
theorem drf_bd (n : Int) : 1 ≤ drf n ∧ drf n ≤ 1000000 := by have := around_lt n (m := 1000000) (by omega); unfold drf; omega
theorem cnt_bd (n : Int) : 0 ≤ cnt n ∧ cnt n < 274877906944 := around_lt n (by omega)
set_option maxHeartbeats 1000000 in
theorem drift_any (n : Int) (w : World) (hn : I64 n) : Calls Try.prog 17 #[.int .i64 n] w fun e w' => e = .returned (.int .i64 (drf n)) ∧ w' = w := by
  have HA := Lib.hid (fun W => around_any n 1000000 hn.1 hn.2 (by omega) (by omega) W)
  have h1 := around_lt n (m := 1000000) (by omega)
  unfold drf
  generalize around n 1000000 = x at *
  clear hn
  go_enter Try.func17, Try.ntmps17
  go_wp2_with (go_at_call 23; refine (HA.out _).mono ?_; rintro e w2 ⟨rfl, rfl⟩)
  go_ret
  exact ⟨rfl, rfl⟩
set_option maxHeartbeats 1000000 in
theorem counted_any (n : Int) (w : World) (hn : I64 n) : Calls Try.prog 16 #[.int .i64 n] w fun e w' => e = .returned (.int .i64 (cnt n)) ∧ w' = w := by
  have HA := Lib.hid (fun W => around_any n 274877906944 hn.1 hn.2 (by omega) (by omega) W)
  rw [show around n 274877906944 = cnt n from rfl] at HA
  generalize cnt n = x at *
  clear hn
  go_enter Try.func16, Try.ntmps16
  go_wp2_with (go_at_call 23; refine (HA.out _).mono ?_; rintro e w2 ⟨rfl, rfl⟩)
  go_ret
  exact ⟨rfl, rfl⟩
/-- A case: seven numbers. -/
structure Cs where
  lo : Int
  wide : Int
  sent : Int
  took : Int
  since : Int
  tick : Int
  drift : Int
abbrev Cs.v (x : Cs) : Value := .agg #[.int .i64 x.lo, .int .i64 x.wide, .int .i64 x.sent, .int .i64 x.took, .int .i64 x.since, .int .i64 x.tick, .int .i64 x.drift]
def Cs.Ok (x : Cs) : Prop := I64 x.lo ∧ I64 x.wide ∧ I64 x.sent ∧ I64 x.took ∧ I64 x.since ∧ I64 x.tick ∧ I64 x.drift
set_option maxHeartbeats 1000000 in
theorem interval_any (x : Cs) (w : World) (hx : x.Ok) : Calls Try.prog 14 #[x.v] w fun e w' => e = .returned (iv (tlo x.lo) (thi x.lo x.wide)) ∧ Below w.heap.size w w' := by
  have HT := Lib.hid (fun W => time_any x.lo x.wide W hx.1 hx.2.1)
  obtain ⟨x0, x1, x2, x3, x4, x5, x6⟩ := x
  clear hx
  dsimp only at HT ⊢
  generalize tlo x0 = a at *
  generalize thi x0 x1 = b at *
  go_enter Try.func14, Try.ntmps14
  go_wp2_with (go_at_call 44; refine (HT.out _).mono ?_; rintro e w2 ⟨rfl, hB⟩; obtain ⟨r0, r1, r2, r3⟩ := row_cells (heap_keep hB (heap_top2 w _ zz)); have HB := Lib.hid hB; clear hB)
  refine bodyPost_ret (v := iv a b) (by simp [results, Try.results14, go_sem, *]) rfl ⟨rfl, ?_⟩
  exact (((below2 HB.out).setCell (by show w.heap.size ≤ w.heap.size + 1; omega) _).setCell (by show w.heap.size ≤ w.heap.size + 1; omega) _)
/-- The correlation of a case, and the present counter. -/
def Cs.s (x : Cs) : Int := cnt x.sent
def Cs.r (x : Cs) : Int := cnt x.sent + cnt x.took
def Cs.q (x : Cs) : Int := tlo x.tick
def Cs.now (x : Cs) : Int := cnt x.sent + cnt x.took + cnt x.since
theorem Cs.bd (x : Cs) : 0 ≤ x.s ∧ x.s ≤ x.r ∧ x.r ≤ x.now ∧ x.now ≤ 1099511627776 ∧ 0 ≤ x.q ∧ x.q ≤ 1000000 := by
  have h1 := cnt_bd x.sent
  have h2 := cnt_bd x.took
  have h3 := cnt_bd x.since
  have h4 := around_lt x.tick (m := 1000001) (by omega)
  unfold Cs.s Cs.r Cs.now Cs.q tlo
  omega
set_option maxHeartbeats 1000000 in
theorem sample_any (x : Cs) (w : World) (hx : x.Ok) : Calls Try.prog 20 #[x.v] w fun e w' => e = .returned (.tuple #[sm x.s x.r x.q, .int .i64 x.now]) ∧ Below w.heap.size w w' := by
  obtain ⟨_, _, h2, h3, h4, h5, _⟩ := hx
  have HS := Lib.hid (fun W => counted_any x.sent W h2)
  have HT := Lib.hid (fun W => counted_any x.took W h3)
  have HN := Lib.hid (fun W => counted_any x.since W h4)
  have HA := Lib.hid (fun W => around_any x.tick 1000001 h5.1 h5.2 (by omega) (by omega) W)
  have b1 := cnt_bd x.sent
  have b2 := cnt_bd x.took
  have b3 := cnt_bd x.since
  rw [show around x.tick 1000001 = tlo x.tick from rfl] at HA
  unfold Cs.s Cs.r Cs.now Cs.q
  obtain ⟨x0, x1, x2, x3, x4, x5, x6⟩ := x
  clear h2 h3 h4 h5
  dsimp only at *
  generalize cnt x2 = s at *
  generalize cnt x3 = k at *
  generalize cnt x4 = n at *
  generalize tlo x5 = q at *
  have hw : IntKind.i64.wrap (s + k + n) = s + k + n := IntWalk.i64_in _ (by omega)
  go_enter Try.func20, Try.ntmps20
  go_wp2_with (go_at_call 16; with_reducible (first | (refine (HS.out _).mono ?_; rintro e w2 ⟨rfl, rfl⟩) | (refine (HT.out _).mono ?_; rintro e w2 ⟨rfl, rfl⟩)))
  clear b1 b2 b3
  go_region_held3 (fun W => W.cell? ⟨w.heap.size, 5, none⟩ = some (.int .i64 x5) ∧ W.cell? ⟨w.heap.size, 4, none⟩ = some (.int .i64 x4)) (first | (go_keep; done) | assumption) ((first | (go_at_call 23; with_reducible refine (HA.out _).mono ?_; rintro e w2 ⟨rfl, rfl⟩) | (go_at_call 16; with_reducible refine (HN.out _).mono ?_; rintro e w2 ⟨rfl, rfl⟩)))
  all_goals go_wp2_with fail
  all_goals
    refine bodyPost_ret (v := .tuple #[sm s (s + k) q, .int .i64 (s + k + n)]) (by simp [results, Try.results20, go_sem, *]) rfl ⟨rfl, ?_⟩
  all_goals exact (((Below.refl _ w).alloc (Nat.le_refl _) _).alloc (by simp) _).drew
set_option maxHeartbeats 1000000 in
theorem holds_any (lo hi n : Int) (w : World) : Calls Try.prog 38 #[iv lo hi, .int .i64 n] w fun e w' => e = .returned (.bool (decide (lo ≤ n) && decide (n ≤ hi))) ∧ Below w.heap.size w w' := by
  by_cases h : lo ≤ n
  all_goals
    go_enter Try.func38, Try.ntmps38
    go_wp2_with fail
    go_ret
    exact ⟨by simp [h] <;> omega, (Below.refl _ w).alloc (Nat.le_refl _) _⟩
end K
end Go.Proofs.Ytlmbpbhdbgadjaa
