/-
  The landed stretches, its iterator, and the function that ends a stretch.
-/
import Derived.Test.YtobbnbelacncjaaPwRng
import Derived.Test.YtobbnbelacncjaaPwSeg
import Derived.Test.YtobbnbelacncjaaPwVals
import Derived.Test.YtobbnbelacncjaaPwStp
namespace Go.Proofs.Ytobbnbelacncjaa
open Go.RowKit Go.Shelf
attribute [local go_sem] Oper.semAt_some
namespace Pw
open H
set_option linter.unusedVariables false
set_option linter.unusedSimpArgs false
set_option maxRecDepth 100000
abbrev encS (ys : List (Int × Int)) (k : Nat) : Array Value := #[.agg #[.int .i64 (ys[k]?.getD (0, 0)).1, .int .i64 (ys[k]?.getD (0, 0)).2]]
abbrev bi (n : Int) : Value := .int .i64 n
theorem kb_box {E : Nat → Prop} {W V : World} {b : Nat} {t : TypeId} {v : Value} (h : Kb E W V) (hb : Boxed W b t v) (hE : ¬ E b) : Boxed V b t v := (h.same b hb.lt hE).trans hb
theorem kb_cell {E : Nat → Prop} {W V : World} {a : Addr} {v : Value} (h : Kb E W V) (hc : W.cell? a = some v) (hE : ¬ E a.block) : V.cell? a = some v :=
  (World.cell?_of_block (w := W) (h.same _ (World.block_lt_of_cell? _ _ hc) hE)).trans hc
set_option maxHeartbeats 4000000 in
theorem change_in (n : Nat) (hn : 1 ≤ n) (l Bu Bt Bg By B N : Nat) (at_ nx u t g : Int) (k : Nat) (J : Nat → World → Prop) (X : World → Prop) (E : Nat → Prop) (ys : List (Int × Int)) (W : World)
    (hat : 0 ≤ at_ ∧ at_ ≤ 1000001) (hu : 0 ≤ u ∧ u ≤ 1000001) (ht : 0 ≤ t ∧ t ≤ 1000001) (hN : N = ys.length)
    (hJ : ∀ k A C, J k A → Below B A C → J k C)
    (hY : ∀ k W1, k < N → J k W1 → B ≤ W1.heap.size → YieldAt Fence.wide n Try.prog l (encS ys k) W1 fun e W' => (e = .returned (.bool true) ∧ J (k + 1) W' ∧ Kb (fun b => E b ∨ b = l) W1 W') ∨ (e = .returned (.bool false) ∧ X W'))
    (hys : ∀ (j : Nat) p, (chgY u (t, g) at_)[j]? = some p → ys[k + j]? = some p)
    (hEB : ∀ b, E b → b < B) (hlB : l < B) (hBt : B ≤ Bt) (hBg : B ≤ Bg) (hBy : B ≤ By) (hne1 : Bt ≠ Bg) (hne2 : By ≠ Bt) (hne3 : By ≠ Bg) (hBuE : ¬ E Bu) (hBul : Bu ≠ l) (hBuB : Bu < B) (hWB : B ≤ W.heap.size)
    (z1 : Boxed W Bt 3 (.int .i64 t)) (z2 : Boxed W Bg 3 (.int .i64 g)) (z3 : W.cell? ⟨Bu, 0, none⟩ = some (.int .i64 u)) (z4 : W.cell? ⟨By, 0, none⟩ = some (.func (.yield l) #[] #[])) (h0 : J k W) :
    CallsIn Fence.wide n Try.prog 62 #[.int .i64 at_, .int .i64 nx, bp Bu, bp Bt, bp Bg, bp By] W fun e W' =>
      (e = .returned (.bool true) ∧ Boxed W' Bt 3 (.int .i64 (chgS u (t, g) at_ nx).1) ∧ Boxed W' Bg 3 (.int .i64 nx) ∧ J (k + (chgY u (t, g) at_).length) W' ∧ Kb (fun b => E b ∨ b = l ∨ b = Bt ∨ b = Bg) W W') ∨ (e = .returned (.bool false) ∧ X W') := by
  have hmn : 0 ≤ min at_ u ∧ min at_ u ≤ 1000001 := by omega
  have HJ := Lib.hid hJ
  have HY := Lib.hid hY
  have HEB := Lib.hid hEB
  have HYS := Lib.hid hys
  obtain ⟨V1, hV1⟩ : ∃ V1, V1 = W.alloc (.cells #[.int .i64 (min at_ u - t), .int .i64 g] 82) := ⟨_, rfl⟩
  obtain ⟨V2, hV2'⟩ : ∃ V2, V2 = (W.setCell ⟨Bg, 0, none⟩ (.int .i64 nx)).alloc (.cells #[.int .i64 (min at_ u - t), .int .i64 g] 82) := ⟨_, rfl⟩
  have hV2 : V2 = V1.setCell ⟨Bg, 0, none⟩ (.int .i64 nx) := by rw [hV2', hV1]; exact (World.setCell_alloc_past _ _ _ _ z2.lt).symm
  have b11 : Boxed V1 Bt 3 (.int .i64 t) := by rw [hV1]; exact z1.alloc _
  have b12 : Boxed V1 Bg 3 (.int .i64 g) := by rw [hV1]; exact z2.alloc _
  have b21 : Boxed V2 Bt 3 (.int .i64 t) := by rw [hV2]; exact b11.other hne1 _
  have b22 : Boxed V2 Bg 3 (.int .i64 nx) := by rw [hV2]; exact b12.set _
  have HB1 : Hid (Below B W V1) := Lib.hid (by rw [hV1]; exact (bel1 W _).mono hWB)
  have HB2 : Hid (Below B W V2) := Lib.hid (by rw [hV2]; exact HB1.out.setCell (p := ⟨Bg, 0, none⟩) hBg _)
  have HK2 : Hid (Kb (fun b => E b ∨ b = l ∨ b = Bt ∨ b = Bg) W V2) := Lib.hid (by rw [hV2]; exact (Kb.of (by rw [hV1]; exact bel1 W _)).trans (Kb.set _ (.inr (.inr (.inr rfl)))))
  have hs0 : (⟨W.heap.size, 0, none⟩ : Addr).block ≠ Bg := by have := z2.lt; show W.heap.size ≠ Bg; omega
  have s1 : V2.cell? ⟨W.heap.size, 0, none⟩ = some (.int .i64 (min at_ u - t)) := by rw [hV2]; exact cell_oth (by rw [hV1]; exact cell_top _ _ _ _) hs0
  have s2 : V2.cell? ⟨W.heap.size, 1, none⟩ = some (.int .i64 g) := by rw [hV2]; exact cell_oth (by rw [hV1]; exact cell_top _ _ _ _) hs0
  have y1 : V2.cell? ⟨By, 0, none⟩ = some (.func (.yield l) #[] #[]) := by rw [hV2]; exact cell_oth (by rw [hV1]; exact cell_under _ z4) hne3
  have c1 := z1.cell
  have c2 := z2.cell
  have f1 := z1.frozen
  have f2 := z2.frozen
  have wlt1 : Bt < W.heap.size := z1.lt
  have wlt : Bg < W.heap.size := z2.lt
  have HZ := Lib.hid (And.intro z1 (And.intro z2 (And.intro b21 b22)))
  have HS := Lib.hid (And.intro s1 (And.intro s2 y1))
  clear hJ hY hEB hys z1 z2 b11 b12 s1 s2 y1 hmn
  by_cases hle : min at_ u - t ≤ 0
  · have HCS1 : Hid ((chgS u (t, g) at_ nx).1 = t) := Lib.hid (by unfold chgS; rw [if_pos hle])
    have HCS2 : Hid ((chgY u (t, g) at_) = []) := Lib.hid (by unfold chgY; rw [if_pos hle])
    clear b21 b22
    clear hV2 hV1
    have HV2 := Lib.hid hV2'
    clear hV2'
    refine callsIn_of_wp Try.func62 rfl trivial ?_ rfl
    simp only [Try.ntmps62, List.size_toArray, List.length_cons, List.length_nil, Nat.reduceAdd, Nat.reduceSub, Array.replicate_succ, Array.replicate_zero, List.push_toArray, List.append_toArray, List.nil_append, List.cons_append]
    gi_wp2
    refine bodyPost_ret (results_tmp rfl _ _ _) rfl ?_
    refine .inl ?_
    rw [HCS1.out, HCS2.out]
    rw [← HV2.out]
    exact ⟨rfl, HZ.out.2.2.1, HZ.out.2.2.2, HJ.out _ _ _ h0 HB2.out, HK2.out⟩
  · have HCS1 : Hid ((chgS u (t, g) at_ nx).1 = t + (min at_ u - t)) := Lib.hid (by unfold chgS; rw [if_neg hle]; show min at_ u = _; omega)
    have HCS2 : Hid ((chgY u (t, g) at_) = [(min at_ u - t, g)]) := Lib.hid (by unfold chgY; rw [if_neg hle])
    have hyk : ys[k]? = some (min at_ u - t, g) := HYS.out 0 _ (by rw [HCS2.out]; rfl)
    have hkN : k < N := by rw [hN]; exact (List.getElem?_eq_some_iff.1 hyk).1
    have hen : encS ys k = #[.agg #[.int .i64 (min at_ u - t), .int .i64 g]] := by unfold encS; rw [hyk]; rfl
    obtain ⟨V3, hV3⟩ : ∃ V3, V3 = ((W.setCell ⟨Bg, 0, none⟩ (.int .i64 nx)).setCell ⟨Bt, 0, none⟩ (.int .i64 (t + (min at_ u - t)))).alloc (.cells #[.int .i64 (min at_ u - t), .int .i64 g] 82) := ⟨_, rfl⟩
    have hV3' : V3 = V2.setCell ⟨Bt, 0, none⟩ (.int .i64 (t + (min at_ u - t))) := by rw [hV3, hV2']; exact (World.setCell_alloc_past _ _ _ _ (by rw [World.size_setCell]; exact wlt1)).symm
    have HB3 : Hid (Below B W V3) := Lib.hid (by rw [hV3']; exact HB2.out.setCell (p := ⟨Bt, 0, none⟩) hBt _)
    have HK3 : Hid (Kb (fun b => E b ∨ b = l ∨ b = Bt ∨ b = Bg) W V3) := Lib.hid (by rw [hV3']; exact HK2.out.trans (Kb.set _ (.inr (.inr (.inl rfl)))))
    have b31 : Hid (Boxed V3 Bt 3 (.int .i64 (t + (min at_ u - t)))) := Lib.hid (by rw [hV3']; exact b21.set _)
    have b32 : Hid (Boxed V3 Bg 3 (.int .i64 nx)) := Lib.hid (by rw [hV3']; exact b22.other (Ne.symm hne1) _)
    have y3 : V3.cell? ⟨By, 0, none⟩ = some (.func (.yield l) #[] #[]) := by rw [hV3']; exact cell_oth HS.out.2.2 hne2
    obtain ⟨fn, tmps, assign, body, hy, hR⟩ := HY.out k V3 hkN (HJ.out _ _ _ h0 HB3.out) (Nat.le_trans hWB HB3.out.size)
    rw [hen] at hy
    rw [hV3] at y3 hy hR
    have HV3 := Lib.hid hV3
    clear hV2 hV1 hV2' hV3' hV3 hyk hen b21 b22
    refine callsIn_of_wp Try.func62 rfl trivial ?_ rfl
    simp only [Try.ntmps62, List.size_toArray, List.length_cons, List.length_nil, Nat.reduceAdd, Nat.reduceSub, Array.replicate_succ, Array.replicate_zero, List.push_toArray, List.append_toArray, List.nil_append, List.cons_append]
    gi_wp2
    rw [← HV3.out] at hR ⊢
    refine (Q.round_wide hR).mono ?_
    rintro e W3 (⟨rfl, hJ3, hk3⟩ | ⟨rfl, hx3⟩)
    · have HR : Hid (Boxed W3 Bt 3 (.int .i64 (t + (min at_ u - t))) ∧ Boxed W3 Bg 3 (.int .i64 nx) ∧ Kb (fun b => E b ∨ b = l ∨ b = Bt ∨ b = Bg) W W3) := Lib.hid ⟨kb_box hk3 b31.out (fun h => by rcases h with h | h; exact absurd (HEB.out _ h) (by omega); omega), kb_box hk3 b32.out (fun h => by rcases h with h | h; exact absurd (HEB.out _ h) (by omega); omega), HK3.out.trans (hk3.more (fun b h => by rcases h with h | h; exact .inl h; exact .inr (.inl h)))⟩
      have HJ3 := Lib.hid hJ3
      clear hJ3 hk3 hR hy y3
      gi_wp2
      refine bodyPost_ret (results_tmp rfl _ _ _) rfl ?_
      refine .inl ?_
      rw [HCS1.out, HCS2.out]
      exact ⟨rfl, HR.out.1, HR.out.2.1, HJ3.out, HR.out.2.2⟩
    · have HX3 := Lib.hid hx3
      clear hx3 hR hy y3
      gi_wp2
      refine bodyPost_ret (results_tmp rfl _ _ _) rfl ?_
      exact .inr ⟨rfl, HX3.out⟩
end Pw
end Go.Proofs.Ytobbnbelacncjaa
