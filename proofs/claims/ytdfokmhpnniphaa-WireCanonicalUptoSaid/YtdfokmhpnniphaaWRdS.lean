/-
  The specification's readers: a length, the end.
-/
import Derived.Test.YtdfokmhpnniphaaWRdI
namespace Go.Proofs.Ytdfokmhpnniphaa
open Go.RowKit
namespace W
open H
set_option linter.unusedVariables false

/-- Blocks b and b + 1 hold two cells each: a variable's, and a result's. -/
structure Two (b : Nat) (W : World) (a0 a1 r0 r1 : Value) : Prop where
  q0 : W.cell? ⟨b, 0, none⟩ = some a0
  q1 : W.cell? ⟨b, 1, none⟩ = some a1
  q2 : W.cell? ⟨b + 1, 0, none⟩ = some r0
  q3 : W.cell? ⟨b + 1, 1, none⟩ = some r1
  f0 : W.frozen? ⟨b, 0, none⟩ = false
  f1 : W.frozen? ⟨b, 1, none⟩ = false
  f2 : W.frozen? ⟨b + 1, 0, none⟩ = false
  f3 : W.frozen? ⟨b + 1, 1, none⟩ = false
  sz : b + 1 < W.heap.size
theorem Two.new (w : World) (T : TypeId) (v0 v1 r0 r1 : Value) : Two w.heap.size ((w.alloc (.cells #[v0, v1] T)).alloc (.cells #[r0, r1] T)) v0 v1 r0 r1 :=
  ⟨by simp, by simp, by simp, by simp, by simp, by simp, by simp, by simp, by simp⟩
theorem Two.step {b : Nat} {W w1 : World} {a0 a1 r0 r1 : Value} (h : Two b W a0 a1 r0 r1) (hb : Below W.heap.size W w1) : Two b w1 a0 a1 r0 r1 := by
  obtain ⟨hcl, hfr⟩ := bcell hb
  have hs := h.sz
  exact ⟨by rw [hcl _ _ (by omega)]; exact h.q0, by rw [hcl _ _ (by omega)]; exact h.q1, by rw [hcl _ _ hs]; exact h.q2, by rw [hcl _ _ hs]; exact h.q3,
    by rw [hfr _ _ (by omega)]; exact h.f0, by rw [hfr _ _ (by omega)]; exact h.f1, by rw [hfr _ _ hs]; exact h.f2, by rw [hfr _ _ hs]; exact h.f3, by have := hb.size; omega⟩
theorem Two.set {b : Nat} {W : World} {a0 a1 r0 r1 : Value} (h : Two b W a0 a1 r0 r1) (x y : Value) : Two b ((W.setCell ⟨b, 0, none⟩ x).setCell ⟨b, 1, none⟩ y) x y r0 r1 := by
  refine ⟨?_, ?_, ?_, ?_, ?_, ?_, ?_, ?_, by simpa using h.sz⟩
  · rw [World.cell?_setCell_other _ _ _ _ (by simp), World.cell?_setCell_same' _ _ _ (by rw [h.q0]; rfl)]
  · rw [World.cell?_setCell_same' _ _ _ (by rw [World.cell?_setCell_other _ _ _ _ (by simp), h.q1]; rfl)]
  · rw [World.cell?_setCell_other _ _ _ _ (by simp), World.cell?_setCell_other _ _ _ _ (by simp), h.q2]
  · rw [World.cell?_setCell_other _ _ _ _ (by simp), World.cell?_setCell_other _ _ _ _ (by simp), h.q3]
  · rw [World.frozen?_setCell, World.frozen?_setCell, h.f0]
  · rw [World.frozen?_setCell, World.frozen?_setCell, h.f1]
  · rw [World.frozen?_setCell, World.frozen?_setCell, h.f2]
  · rw [World.frozen?_setCell, World.frozen?_setCell, h.f3]
theorem below_two {B b : Nat} (h : B ≤ b) (W : World) (x y : Value) : Below B W ((W.setCell ⟨b, 0, none⟩ x).setCell ⟨b, 1, none⟩ y) :=
  ((Below.refl B W).setCell (p := ⟨b, 0, none⟩) h _).setCell (p := ⟨b, 1, none⟩) h _
/-- Behind 'r, x = f(r)': the variable's two cells are set anew. -/
theorem rebind {w w1 : World} {T : TypeId} {v0 v1 r0 r1 : Value} (a0 a1 : Value) (hb : Below ((w.alloc (.cells #[v0, v1] T)).alloc (.cells #[r0, r1] T)).heap.size ((w.alloc (.cells #[v0, v1] T)).alloc (.cells #[r0, r1] T)) w1) :
    ∃ W2, (w1.setCell ⟨w.heap.size, 0, none⟩ a0).setCell ⟨w.heap.size, 1, none⟩ a1 = W2 ∧ Two w.heap.size W2 a0 a1 r0 r1 ∧ Below w.heap.size w1 W2 ∧ Below w.heap.size w W2 := by
  have hBL : Below w.heap.size w ((w.alloc (.cells #[v0, v1] T)).alloc (.cells #[r0, r1] T)) := ((Below.refl _ _).alloc (Nat.le_refl _) _).alloc (by simp) _
  have hb2 : Below w.heap.size w w1 := hBL.trans (hb.mono (by simp; omega))
  have h2 := below_two (Nat.le_refl w.heap.size) w1 a0 a1
  exact ⟨_, rfl, ((Two.new w T v0 v1 r0 r1).step hb).set a0 a1, h2, hb2.trans h2⟩
theorem rebind2 {b B : Nat} {W w3 : World} {x y r0 r1 : Value} (h : Two b W x y r0 r1) (hB : B ≤ b) (hb : Below W.heap.size W w3) (a0 a1 : Value) :
    ∃ W4, (w3.setCell ⟨b, 0, none⟩ a0).setCell ⟨b, 1, none⟩ a1 = W4 ∧ Two b W4 a0 a1 r0 r1 ∧ Below B W W4 := by
  have hs := h.sz
  exact ⟨_, rfl, (h.step hb).set a0 a1, (hb.mono (by omega)).trans (below_two hB w3 a0 a1)⟩

theorem post_fin {B : Nat} {w w1 W : World} {A1 : Option Addr} {n1 c1 : Nat} {sb : List Int} {se : Int} {mk x y : Value} (P : sb.length = n1 ∧ n1 ≤ c1 ∧ c1 ≤ maxLen ∧ (A1 = none → c1 = 0) ∧ RdI w1 B .u8 A1 sb) (hBw : B ≤ w.heap.size) (h : Below B w1 W) (hW : Below w.heap.size w W) :
    RdPost w B (sb, se) mk (.returned (.tuple #[.agg #[.slice A1 n1 c1, .int .i64 se], mk])) ((W.setCell ⟨w.heap.size + 1, 0, none⟩ x).setCell ⟨w.heap.size + 1, 1, none⟩ y) :=
  ⟨A1, n1, c1, rfl, P.1, P.2.1, P.2.2.1, P.2.2.2.1, P.2.2.2.2.below (h.trans (below_two (Nat.le_succ_of_le hBw) W x y)), hW.trans (below_two (Nat.le_succ _) W x y)⟩

set_option maxHeartbeats 1000000 in
theorem end_any (A : Option Addr) (n c : Nat) (bs : List Int) (e : Int) (w : World) (hl : bs.length = n) :
    Calls Try.prog 24 #[rdr A n c e] w fun r w' => r = .returned (.int .i64 (endOf (bs, e))) ∧ Below w.heap.size w w' := by
  unfold rdr endOf
  have hne : bs ≠ [] ↔ 0 < n := by rw [← hl]; exact List.length_pos_iff.symm
  have HL := Lib.hid hl
  clear hl
  by_cases he : e = 0
  · have h1 : (e == 0) = true := by simpa using he
    by_cases hn : 0 < n
    · have hv : (if (bs, e).2 = 0 ∧ (bs, e).1 ≠ [] then 7 else (bs, e).2) = (7 : Int) := if_pos ⟨he, hne.2 hn⟩
      rw [hv]
      clear he hne hv
      go_enter Try.func24, Try.ntmps24
      go_wp2
      go_ret
      exact ⟨rfl, (Below.refl _ _).alloc (Nat.le_refl _) _⟩
    · have hv : (if (bs, e).2 = 0 ∧ (bs, e).1 ≠ [] then 7 else (bs, e).2) = e := if_neg (fun h => hn (hne.1 h.2))
      rw [hv]
      have HE := Lib.hid he
      clear he hne hv
      go_enter Try.func24, Try.ntmps24
      go_wp2
      go_ret
      exact ⟨rfl, (Below.refl _ _).alloc (Nat.le_refl _) _⟩
  · have h1 : (e == 0) = false := by simpa using he
    have hv : (if (bs, e).2 = 0 ∧ (bs, e).1 ≠ [] then 7 else (bs, e).2) = e := if_neg (fun h => he h.1)
    rw [hv]
    clear he hne hv
    go_enter Try.func24, Try.ntmps24
    go_wp2
    go_ret
    exact ⟨rfl, (Below.refl _ _).alloc (Nat.le_refl _) _⟩

set_option maxRecDepth 100000 in
set_option maxHeartbeats 1000000 in
theorem rdsize_any (B : Nat) (A : Option Addr) (n c : Nat) (bs : List Int) (e m : Int) (w : World) (hm : -9223372036854775808 ≤ m ∧ m ≤ 9223372036854775807) (hBw : B ≤ w.heap.size) (hb : Byt bs) (hl : bs.length = n) (hn : n ≤ 140737488351232) (hc : n ≤ c) (hcm : c ≤ maxLen) (hnil : A = none → c = 0) (hr : RdI w B .u8 A bs) :
    Calls Try.prog 49 #[rdr A n c e, .int .i64 m] w (RdPost w B (rS (bs, e) m).1 (.int .i64 (rS (bs, e) m).2)) := by
  have hlt := rU_lt hb e
  have hBL : Below w.heap.size w ((w.alloc (.cells #[.slice A n c, .int .i64 e] 35)).alloc (.cells #[.slice none 0 0, .int .i64 0] 35)) := ((Below.refl _ _).alloc (Nat.le_refl _) _).alloc (by simp) _
  have hu := rduint_any B A n c bs e ((w.alloc (.cells #[.slice A n c, .int .i64 e] 35)).alloc (.cells #[.slice none 0 0, .int .i64 0] 35)) (Nat.le_trans hBw hBL.size) hb hl hn hc hcm hnil (hr.below (hBL.mono hBw))
  unfold rS
  generalize rU (bs, e) = s at hu hlt ⊢
  obtain ⟨⟨sb, se⟩, su⟩ := s
  have HR := Lib.hid hr
  have HLT := Lib.hid hlt
  have HM := Lib.hid hm
  clear hb hl hnil hr hBL hlt hcm hm
  by_cases hse : se = 0
  · have g1 : (se == 0) = true := by simpa using hse
    have g2 : (se != 0) = false := by simpa using hse
    by_cases hms : m < (su : Int)
    · rw [if_neg (by simpa using hse), if_pos hms]
      have hcase : m < 0 ∨ (0 ≤ m ∧ m < (su : Int)) := by omega
      have hmU : m ≤ 9223372036854775807 := HM.out.2
      clear hms
      subst hse
      rcases hcase with hc1 | ⟨hc1, hc2⟩
      all_goals
        unfold rdr at hu ⊢
        go_enter Try.func49, Try.ntmps49
        go_wp2_with fail
        refine hu.mono ?_
        clear hu
        rintro x w1 ⟨A1, n1, c1, rfl, hl1, hc1, hcm1, hnil1, hr1, hb1⟩
        have P1 := Lib.hid (And.intro hl1 (And.intro hc1 (And.intro hcm1 (And.intro hnil1 hr1))))
        clear hl1 hc1 hcm1 hnil1 hr1
        obtain ⟨W2, hW2, h2, hB12, hB2⟩ := rebind (.slice A1 n1 c1) (.int .i64 0) hb1
        obtain ⟨hcl, hfr⟩ := bcell hb1
        have hz1 : w.heap.size + 1 < w1.heap.size := by have := hb1.size; simp at this; omega
        obtain ⟨q0, q1, q2, q3, f0, f1, f2, f3, hs2⟩ := h2
        unfold rdr
        go_wp2_with fail
        refine (fail0 A1 n1 c1 2 W2).mono ?_
        rintro x w3 ⟨rfl, hb3⟩
        obtain ⟨W4, hW4, h4, hB24⟩ := rebind2 (B := w.heap.size) ⟨q0, q1, q2, q3, f0, f1, f2, f3, hs2⟩ (Nat.le_refl _) hb3 (.slice A1 n1 c1) (.int .i64 2)
        obtain ⟨p0, p1, p2, p3, e0, e1, e2, e3, hs4⟩ := h4
        obtain ⟨s0, s1, s2, s3, t0, t1, t2, t3, hs3⟩ := Two.step ⟨q0, q1, q2, q3, f0, f1, f2, f3, hs2⟩ hb3
        clear hW2 hcl hfr q0 q1 q2 q3 f0 f1 f2 f3 hz1
        go_wp2
        refine bodyPost_ret (v := .tuple #[.agg #[.slice A1 n1 c1, .int .i64 2], .int .i64 0]) (by simp [results, Try.results49, go_sem, p2, p3]) rfl ?_
        exact post_fin P1.out hBw ((hB12.mono hBw).trans (hB24.mono hBw)) (hB2.trans hB24)
    · rw [if_neg (by simpa using hse), if_neg hms]
      have hmU : m ≤ 9223372036854775807 := HM.out.2
      have hm0 : 0 ≤ m := by omega
      have hsm : (su : Int) ≤ m := by omega
      clear hms
      subst hse
      unfold rdr at hu ⊢
      go_enter Try.func49, Try.ntmps49
      go_wp2_with fail
      refine hu.mono ?_
      clear hu
      rintro x w1 ⟨A1, n1, c1, rfl, hl1, hc1, hcm1, hnil1, hr1, hb1⟩
      have P1 := Lib.hid (And.intro hl1 (And.intro hc1 (And.intro hcm1 (And.intro hnil1 hr1))))
      clear hl1 hc1 hcm1 hnil1 hr1
      obtain ⟨W2, hW2, h2, hB12, hB2⟩ := rebind (.slice A1 n1 c1) (.int .i64 0) hb1
      obtain ⟨hcl, hfr⟩ := bcell hb1
      have hz1 : w.heap.size + 1 < w1.heap.size := by have := hb1.size; simp at this; omega
      obtain ⟨q0, q1, q2, q3, f0, f1, f2, f3, hs2⟩ := h2
      unfold rdr
      go_wp2
      refine bodyPost_ret (v := .tuple #[.agg #[.slice A1 n1 c1, .int .i64 0], .int .i64 su]) (by simp [results, Try.results49, go_sem, q2, q3]) rfl ?_
      exact post_fin P1.out hBw (hB12.mono hBw) hB2
  · have g1 : (se == 0) = false := by simpa using hse
    have g2 : (se != 0) = true := by simpa using hse
    rw [if_pos (by simpa using hse)]
    have HSE := Lib.hid hse
    clear hse
    unfold rdr at hu ⊢
    go_enter Try.func49, Try.ntmps49
    go_wp2_with fail
    refine hu.mono ?_
    clear hu
    rintro x w1 ⟨A1, n1, c1, rfl, hl1, hc1, hcm1, hnil1, hr1, hb1⟩
    have P1 := Lib.hid (And.intro hl1 (And.intro hc1 (And.intro hcm1 (And.intro hnil1 hr1))))
    clear hl1 hc1 hcm1 hnil1 hr1
    obtain ⟨W2, hW2, h2, hB12, hB2⟩ := rebind (.slice A1 n1 c1) (.int .i64 se) hb1
    obtain ⟨hcl, hfr⟩ := bcell hb1
    have hz1 : w.heap.size + 1 < w1.heap.size := by have := hb1.size; simp at this; omega
    obtain ⟨q0, q1, q2, q3, f0, f1, f2, f3, hs2⟩ := h2
    unfold rdr
    go_wp2
    refine bodyPost_ret (v := .tuple #[.agg #[.slice A1 n1 c1, .int .i64 se], .int .i64 0]) (by simp [results, Try.results49, go_sem, q2, q3]) rfl ?_
    exact post_fin P1.out hBw (hB12.mono hBw) hB2

theorem rU_len {bs : List Int} (hb : Byt bs) (e : Int) : (rU (bs, e)).1.1.length ≤ bs.length := by
  unfold rU
  split
  · exact Nat.le_refl _
  · rcases hr : rd 0 bs with x | ⟨n, r⟩
    · exact Nat.le_refl _
    · have h := congrArg List.length (rd_canon bs 0 n r hb (by omega) hr).1
      rw [List.length_append] at h
      simp only
      omega
theorem rS_len {bs : List Int} (hb : Byt bs) (e m : Int) : (rS (bs, e) m).1.1.length ≤ bs.length := by
  have h := rU_len hb e
  unfold rS
  split
  · exact h
  · split <;> exact h
theorem rS_byt {bs : List Int} (hb : Byt bs) (e m : Int) : Byt (rS (bs, e) m).1.1 := by
  have h := rU_byt hb e
  unfold rS
  split
  · exact h
  · split <;> exact h

end W
end Go.Proofs.Ytdfokmhpnniphaa
