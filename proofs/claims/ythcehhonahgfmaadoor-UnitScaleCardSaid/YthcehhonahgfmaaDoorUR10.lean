/-
  Contract of the specification's Parse.
-/
import Derived.Test.YthcehhonahgfmaaDoorUR9
import Derived.Test.YthcehhonahgfmaaDoorURef5
namespace Go.Proofs.YthcehhonahgfmaaDoor
open Go.RowKit
namespace U
open H
set_option linter.unusedVariables false
set_option maxRecDepth 100000
theorem raised_in8 {x : Dm} {v : Int} (hx : x.in 1) (hv : -8 ≤ v ∧ v ≤ 8) : (x.raised v).in 8 := by
  have hm : ∀ v x : Int, -8 ≤ v → v ≤ 8 → -1 ≤ x → x ≤ 1 → -8 ≤ v * x ∧ v * x ≤ 8 := by
    intro v x hv1 hv2 hx1 hx2
    have : x = -1 ∨ x = 0 ∨ x = 1 := by omega
    rcases this with rfl | rfl | rfl <;> omega
  obtain ⟨h1, h2, h3, h4, h5⟩ := hx
  unfold Dm.in Dm.raised
  dsimp only
  exact ⟨hm _ _ hv.1 hv.2 h1.1 h1.2, hm _ _ hv.1 hv.2 h2.1 h2.2, hm _ _ hv.1 hv.2 h3.1 h3.2, hm _ _ hv.1 hv.2 h4.1 h4.2, hm _ _ hv.1 hv.2 h5.1 h5.2⟩
theorem look_in1 (l : List UInt8) : (lookT l).1.in 1 := by
  have h1 : (fun k : Dm × Int × Bool => k.1.in 1) (lookT l) := by
    unfold lookT
    repeat (refine ite_any (P := fun k : Dm × Int × Bool => k.1.in 1) (by decide) ?_)
    decide
  exact h1
set_option maxHeartbeats 1000000 in
theorem rscaled_any (n k : Int) (w : World) (h : -7730941132800 ≤ n * k ∧ n * k ≤ 7730941132800) :
    Calls Tryd.prog 57 #[.int .i64 n, .int .i64 k] w fun r w' => r = .returned (.int .i64 (scaled n k)) ∧ w' = w := by
  obtain ⟨z, hz⟩ : ∃ z, n * k = z := ⟨_, rfl⟩
  have HZ := Lib.hid (show scaled n k = max (min z 2147483648) (-2147483648) by unfold scaled; rw [hz])
  rw [hz] at h
  go_enter Tryd.func57, Tryd.ntmps57
  go_wp2_with fail
  go_ret
  exact ⟨by rw [HZ.out]; rfl, rfl⟩
theorem fcV_at : ∀ (fs : List Fac) (j : Nat) (f : Fac), fs[j]? = some f → (fcV fs)[j * 3]? = some (.string ⟨f.u.toArray⟩) ∧ (fcV fs)[j * 3 + 1]? = some (.int .i64 f.e) ∧ (fcV fs)[j * 3 + 2]? = some (.bool f.g)
  | [], j, f, h => by simp at h
  | a :: fs, 0, f, h => by
    simp only [List.getElem?_cons_zero, Option.some.injEq] at h
    subst h
    exact ⟨rfl, rfl, rfl⟩
  | a :: fs, j + 1, f, h => by
    simp only [List.getElem?_cons_succ] at h
    have ih := fcV_at fs j f h
    have e : fcV (a :: fs) = .string ⟨a.u.toArray⟩ :: .int .i64 a.e :: .bool a.g :: fcV fs := rfl
    rw [e, show (j + 1) * 3 = j * 3 + 1 + 1 + 1 by omega]
    simp only [List.getElem?_cons_succ]
    exact ih
theorem ffold_ok {fs : List Fac} {j : Nat} {f : Fac} {q : Qt} (h : fs[j]? = some f) (h1 : ¬ ((lookT f.u).2.2 = false ∨ (f.g = true ∧ (lookT f.u).2.1 ≠ 1))) (h2 : ¬ (f.e = 0 ∨ f.e < -8 ∨ 8 < f.e)) :
    facFold (fs.drop j) q = facFold (fs.drop (j + 1)) ⟨scaled q.n (lookT f.u).2.1, q.m.times ((lookT f.u).1.raised f.e)⟩ := by
  obtain ⟨hj, he⟩ := List.getElem?_eq_some_iff.1 h
  rw [List.drop_eq_getElem_cons hj, he, facFold, facStep, if_neg h1, if_neg h2]
theorem ffold_stop {fs : List Fac} {j : Nat} {f : Fac} {q : Qt} (h : fs[j]? = some f) (e : Int) (h1 : facStep q f = .error e) : facFold (fs.drop j) q = .error e := by
  obtain ⟨hj, he⟩ := List.getElem?_eq_some_iff.1 h
  rw [List.drop_eq_getElem_cons hj, he, facFold, h1]
/-- What a step says of a factor whose unit is (kd, kk, kok). -/
def stepK (kok : Bool) (kk : Int) (g : Bool) (e : Int) : Int := if kok = false ∨ (g = true ∧ kk ≠ 1) then 10 else if e = 0 ∨ e < -8 ∨ 8 < e then 5 else 0
theorem step_err {q : Qt} {f : Fac} {c : Int} (h0 : c ≠ 0) (h : stepK (lookT f.u).2.2 (lookT f.u).2.1 f.g f.e = c) : facStep q f = .error c := by
  unfold stepK at h
  unfold facStep
  split at h
  · rename_i h1; rw [if_pos h1, h]
  · rename_i h1
    rw [if_neg h1]
    split at h
    · rename_i h2; rw [if_pos h2, h]
    · exact absurd h.symm h0
/-- What the region holds: the unit's dimension, the factor's exponent. -/
def HoldP (db zg jj : Nat) (ds : Array Value) (fe : Int) (W : World) : Prop :=
  (∀ o, W.cell? ⟨db, o, none⟩ = ds[o]?) ∧ W.cell? ⟨zg, jj, none⟩ = some (.int .i64 fe) ∧ db < W.heap.size ∧ zg < W.heap.size
theorem HoldP.step {db zg jj : Nat} {ds : Array Value} {fe : Int} {W W1 : World} (h : HoldP db zg jj ds fe W) (hB : Below W.heap.size W W1) : HoldP db zg jj ds fe W1 :=
  ⟨fun o => (hB.cell (p := ⟨db, o, none⟩) h.2.2.1).trans (h.1 o), (hB.cell (p := ⟨zg, jj, none⟩) h.2.2.2).trans h.2.1, by have := hB.size; have := h.2.2.1; omega, by have := hB.size; have := h.2.2.2; omega⟩
theorem HoldP.set {db zg jj g i : Nat} {ds : Array Value} {fe : Int} {W : World} (v : Value) (h : HoldP db zg jj ds fe W) (h1 : g ≠ db) (h2 : g ≠ zg) : HoldP db zg jj ds fe (W.setCell ⟨g, i, none⟩ v) :=
  ⟨fun o => (World.cell?_setCell_other _ _ _ _ (by intro e; injection e with e; exact h1 e)).trans (h.1 o), (World.cell?_setCell_other _ _ _ _ (by intro e; injection e with e; exact h2 e)).trans h.2.1, by simp [World.setCell]; exact h.2.2.1, by simp [World.setCell]; exact h.2.2.2⟩
theorem HoldP.set5 {db zg jj g : Nat} {ds : Array Value} {fe : Int} {W : World} (y1 y2 y3 y4 y5 : Value) (h : HoldP db zg jj ds fe W) (h1 : g ≠ db) (h2 : g ≠ zg) : HoldP db zg jj ds fe (((((W.setCell ⟨g, 1, none⟩ y1).setCell ⟨g, 2, none⟩ y2).setCell ⟨g, 3, none⟩ y3).setCell ⟨g, 4, none⟩ y4).setCell ⟨g, 5, none⟩ y5) :=
  ((((h.set y1 h1 h2).set y2 h1 h2).set y3 h1 h2).set y4 h1 h2).set y5 h1 h2
/-- The quantity's row. -/
def RowP (g : Nat) (cs : Array Value) (w0 W : World) : Prop := W.heap[g]? = some (.cells cs 32 (0, 0)) ∧ g < W.heap.size ∧ Below g w0 W
theorem RowP.step {g : Nat} {cs : Array Value} {w0 W W1 : World} (h : RowP g cs w0 W) (hB : Below W.heap.size W W1) : RowP g cs w0 W1 :=
  ⟨(hB.block g h.2.1).trans h.1, by have := hB.size; have := h.2.1; omega, h.2.2.trans (hB.mono (by have := h.2.1; omega))⟩
theorem RowP.box {g : Nat} {cs : Array Value} {w0 W : World} (h : RowP g cs w0 W) : ∀ o, W.cell? ⟨g, o, none⟩ = cs[o]? := fun o => cell_of_row W g o _ _ _ h.1
theorem RowP.fr {g : Nat} {cs : Array Value} {w0 W : World} (h : RowP g cs w0 W) : ∀ o, W.frozen? ⟨g, o, none⟩ = false := fun o => free_row h.1
theorem RowP.set5 {g : Nat} {n x1 x2 x3 x4 x5 : Value} {w0 W : World} (y1 y2 y3 y4 y5 : Value) (h : RowP g #[n, x1, x2, x3, x4, x5] w0 W) : RowP g #[n, y1, y2, y3, y4, y5] w0 (((((W.setCell ⟨g, 1, none⟩ y1).setCell ⟨g, 2, none⟩ y2).setCell ⟨g, 3, none⟩ y3).setCell ⟨g, 4, none⟩ y4).setCell ⟨g, 5, none⟩ y5) := by
  have h1 := U.set5 y1 y2 y3 y4 y5 h.1
  exact ⟨h1.1, (Array.getElem?_eq_some_iff.1 h1.1).1, h1.2 _ _ h.2.2 (Nat.le_refl _)⟩
set_option maxHeartbeats 4000000 in
theorem rparse_any (s : ByteArray) (w : World) (hs : s.size ≤ 140737488351232) :
    Calls Tryd.prog 38 #[.string s] w fun r w' => r = .returned (.tuple #[.agg #[.int .i64 (parseT s.toList).1.n, .int .i64 (parseT s.toList).1.m.e, .int .i64 (parseT s.toList).1.m.d, .int .i64 (parseT s.toList).1.m.t, .int .i64 (parseT s.toList).1.m.a, .int .i64 (parseT s.toList).1.m.h], .int .i64 (parseT s.toList).2]) ∧ Below w.heap.size w w' := by
  rw [ByteArray.toList_eq]
  obtain ⟨A, hA⟩ : ∃ A, parseT s.data.toList = A := ⟨_, rfl⟩
  rw [hA]
  unfold parseT at hA
  have hsl : s.data.toList.length = s.size := rfl
  have HRES := Lib.hid (heap_alloc_new w (.cells #[.int .i64 0, .int .i64 0, .int .i64 0, .int .i64 0, .int .i64 0, .int .i64 0] 32))
  by_cases h100 : 100 < s.size
  · rw [if_pos (by omega)] at hA
    subst hA
    have hi : (100 : Int) < (s.size : Int) := by omega
    have HB := Lib.hid ((Below.refl w.heap.size w).alloc (Nat.le_refl _) (.cells #[.int .i64 0, .int .i64 0, .int .i64 0, .int .i64 0, .int .i64 0, .int .i64 0] 32))
    clear hsl h100
    go_enter Tryd.func38, Tryd.ntmps38
    go_wp2_with (refine wpList_store_row rfl 32 _ _ rfl (w.heap.size) #[.int .i64 0, .int .i64 0, .int .i64 0, .int .i64 0, .int .i64 0, .int .i64 0] rfl rfl 32 _ HRES.out sizeQ rfl (one6 _ _ _ _ _ _) ?_)
    refine bodyPost_ret (v := .tuple #[.agg #[.int .i64 0, .int .i64 0, .int .i64 0, .int .i64 0, .int .i64 0, .int .i64 0], .int .i64 (2)]) (results_row_tmp (ty := 32) rfl _ _ (w.heap.size) 32 #[.int .i64 0, .int .i64 0, .int .i64 0, .int .i64 0, .int .i64 0, .int .i64 0] (0, 0) _ _ rfl rfl (setRow_heap _ _ _ _ _ _ HRES.out) Tryd.underlying32 rfl sizeQ) rfl ⟨?_, below_setRow HB.out (Nat.le_refl _) _⟩
    rfl
  · rw [if_neg (by omega)] at hA
    have hi : ¬ (100 : Int) < (s.size : Int) := by omega
    have HSP := Lib.hid (fun W => rform_any s W (by omega))
    cases hp : formT s.data.toList with
    | none =>
      rw [hp] at hA HSP
      subst hA
      clear hp h100
      go_enter Tryd.func38, Tryd.ntmps38
      go_wp2_with fail
      refine (HSP.out _).mono ?_
      rintro r w1 ⟨hB, nn, rfl⟩
      have HRES1 := Lib.hid ((hB.block w.heap.size (by simp)).trans HRES.out)
      have HB := Lib.hid (((Below.refl w.heap.size w).alloc (Nat.le_refl _) (.cells #[.int .i64 0, .int .i64 0, .int .i64 0, .int .i64 0, .int .i64 0, .int .i64 0] 32)).trans (hB.mono (by simp)))
      clear hB
      go_wp2_with (refine wpList_store_row rfl 32 _ _ rfl (w.heap.size) #[.int .i64 0, .int .i64 0, .int .i64 0, .int .i64 0, .int .i64 0, .int .i64 0] rfl rfl 32 _ HRES1.out sizeQ rfl (one6 _ _ _ _ _ _) ?_)
      refine bodyPost_ret (v := .tuple #[.agg #[.int .i64 0, .int .i64 0, .int .i64 0, .int .i64 0, .int .i64 0, .int .i64 0], .int .i64 (7)]) (results_row_tmp (ty := 32) rfl _ _ (w.heap.size) 32 #[.int .i64 0, .int .i64 0, .int .i64 0, .int .i64 0, .int .i64 0, .int .i64 0] (0, 0) _ _ rfl rfl (setRow_heap _ _ _ _ _ _ HRES1.out) Tryd.underlying32 rfl sizeQ) rfl ⟨?_, below_setRow HB.out (Nat.le_refl _) _⟩
      rfl
    | some p =>
      obtain ⟨v, fs⟩ := p
      rw [hp] at hA HSP
      dsimp only at hA
      have hfb := form_bd hp
      have hfl : fs.length ≤ 101 := by have := hfb.1; omega
      have hv := hfb.2
      have HA := Lib.hid hA
      clear hp h100 hA hfb hsl
      go_enter Tryd.func38, Tryd.ntmps38
      go_wp2_with fail
      refine (HSP.out _).mono ?_
      rintro r w2 ⟨hB, z, rfl, hown⟩
      have HRES2 := Lib.hid ((hB.block w.heap.size (by simp)).trans HRES.out)
      have HB2 := Lib.hid (((Below.refl w.heap.size w).alloc (Nat.le_refl _) (.cells #[.int .i64 0, .int .i64 0, .int .i64 0, .int .i64 0, .int .i64 0, .int .i64 0] 32)).trans (hB.mono (by simp)))
      have hlt : w.heap.size < w2.heap.size := (Array.getElem?_eq_some_iff.1 HRES2.out).1
      obtain ⟨zg, za, zc, rfl, hrow⟩ := row_form hown
      have HROW := Lib.hid hrow
      have HQ0 := Lib.hid (heap_alloc_new w2 (.cells #[.int .i64 v, .int .i64 0, .int .i64 0, .int .i64 0, .int .i64 0, .int .i64 0] 32))
      have HBQ := Lib.hid ((Below.refl w2.heap.size w2).alloc (Nat.le_refl _) (.cells #[.int .i64 v, .int .i64 0, .int .i64 0, .int .i64 0, .int .i64 0, .int .i64 0] 32))
      clear hB HRES hrow hown
      go_wp2_with fail
      go_loopg [8] fs.length (fun g i wr => ∃ (j : Nat) (q : Qt), j + g = fs.length ∧ i = .int .i64 j ∧ facFold fs ⟨v, .zero⟩ = facFold (fs.drop j) q ∧ q.m.in (8 * j) ∧ (-2147483648 ≤ q.n ∧ q.n ≤ 2147483648) ∧ Below w2.heap.size w2 wr ∧ wr.heap[w2.heap.size]? = some (.cells #[.int .i64 (q).n, .int .i64 (q).m.e, .int .i64 (q).m.d, .int .i64 (q).m.t, .int .i64 (q).m.a, .int .i64 (q).m.h] 32 (0, 0)))
      case atStart => exact ⟨0, ⟨v, .zero⟩, by omega, rfl, rfl, (show Dm.zero.in 0 by decide), hv, HBQ.out, HQ0.out⟩
      case round =>
        obtain ⟨j, q, hg, rfl, hfold, hin, hn, hb, hq⟩ := hrel
        have HG := Lib.hid hg
        have hj : j ≤ fs.length := by omega
        have HFOLD := Lib.hid hfold
        have HIN := Lib.hid hin
        have HBW := Lib.hid hb
        have HQ := Lib.hid hq
        have hszr : w2.heap.size < wr.heap.size := (Array.getElem?_eq_some_iff.1 hq).1
        clear hg hfold hin hb hq
        by_cases hlt2 : j < fs.length
        · have hi : (j : Int) < (fs.length : Int) := by omega
          have hi0 : (0 : Int) ≤ (j : Int) := by omega
          obtain ⟨rfl, hzg, hz⟩ := HROW.out (by omega)
          have hzgr : zg < wr.heap.size := by omega
          obtain ⟨f, hf⟩ : ∃ f, fs[j]? = some f := ⟨_, List.getElem?_eq_getElem hlt2⟩
          obtain ⟨h1, h2, h3⟩ := fcV_at fs j f hf
          have hc : ∀ i u, (fcV fs)[i]? = some u → wr.cell? ⟨zg, i, none⟩ = some u := fun i u hu => (HBW.out.cell (p := ⟨zg, i, none⟩) hzg).trans (hz i u hu)
          have hc0 := hc _ _ h1
          have hc1 := hc _ _ h2
          have hc2 := hc _ _ h3
          have HLT := Lib.hid hlt2
          have HST := Lib.hid (fun c h0 h => ffold_stop (q := q) hf c (step_err h0 h))
          have HOK := Lib.hid (fun h1 h2 => ffold_ok (q := q) hf h1 h2)
          have HKD := Lib.hid (look_in1 f.u)
          have hks := look_size f.u
          obtain ⟨fu, hfu⟩ : ∃ fu : ByteArray, (⟨f.u.toArray⟩ : ByteArray) = fu := ⟨_, rfl⟩
          have hud : f.u = fu.toList := by rw [← hfu, ByteArray.toList_eq]
          have HL := Lib.hid (fun W => rlook_any fu W)
          rw [← hud] at HL
          rw [hfu] at hc0
          generalize lookT f.u = k at HL HKD hks HST HOK
          obtain ⟨kd, kk, kok⟩ := k
          obtain ⟨fe, hfe⟩ : ∃ fe, f.e = fe := ⟨_, rfl⟩
          obtain ⟨fg, hfg⟩ : ∃ fg, f.g = fg := ⟨_, rfl⟩
          rw [hfe] at hc1 HST HOK
          rw [hfg] at hc2 HST HOK
          dsimp only at HL HKD hks HST HOK
          clear hf hc h1 h2 h3 hz hfu hud hfe hfg
          cases kok
          · clear hks
            cases fg
            · go_wp2_with fail
              refine (HL.out _).mono ?_
              rintro r w3 ⟨rfl, hB⟩
              have hq3 : w3.heap[w2.heap.size]? = _ := (hB.block _ hszr).trans HQ.out
              have hbox : ∀ o, w3.cell? ⟨w2.heap.size, o, none⟩ = (#[.int .i64 (q).n, .int .i64 (q).m.e, .int .i64 (q).m.d, .int .i64 (q).m.t, .int .i64 (q).m.a, .int .i64 (q).m.h] : Array Value)[o]? := fun o => cell_of_row w3 _ o _ _ _ hq3
              have HQ3 := Lib.hid hq3
              have hlt3 : w2.heap.size < w3.heap.size := (Array.getElem?_eq_some_iff.1 hq3).1
              have hlt0 : w.heap.size < w3.heap.size := by omega
              have hltg : zg < w3.heap.size := by omega
              have hfr : ∀ o, w3.frozen? ⟨w2.heap.size, o, none⟩ = false := fun o => free_row hq3
              have HB3 := Lib.hid (HBW.out.trans (hB.mono HBW.out.size))
              have hd0 : w3.cell? ⟨zg, j * 3, none⟩ = some (.string fu) := (hB.cell (p := ⟨zg, j * 3, none⟩) hzgr).trans hc0
              have hd1 : w3.cell? ⟨zg, j * 3 + 1, none⟩ = some (.int .i64 fe) := (hB.cell (p := ⟨zg, j * 3 + 1, none⟩) hzgr).trans hc1
              have hd2 : w3.cell? ⟨zg, j * 3 + 2, none⟩ = some (.bool false) := (hB.cell (p := ⟨zg, j * 3 + 2, none⟩) hzgr).trans hc2
              have HRES3 := Lib.hid ((HB3.out.block w.heap.size hlt).trans HRES2.out)
              have HBW3 := Lib.hid (HB2.out.trans (HB3.out.mono HB2.out.size))
              have HRES4 := Lib.hid ((Below.heap_alloc w3 (.cells #[.int .i64 kd.e, .int .i64 kd.d, .int .i64 kd.t, .int .i64 kd.a, .int .i64 kd.h] 23) w.heap.size hlt0).trans HRES3.out)
              have HB4 := Lib.hid (HBW3.out.alloc (by omega) (.cells #[.int .i64 kd.e, .int .i64 kd.d, .int .i64 kd.t, .int .i64 kd.a, .int .i64 kd.h] 23))
              clear hB hq3 hc0 hc1 hc2
              have HE := Lib.hid (HST.out 10 (by decide) (by unfold stepK; first | rfl | (rw [if_neg (by simp), if_pos (by omega)]) | (rw [if_pos (by simp; omega)]) | simp_all))
              clear HST HOK
              go_wp2_with (refine wpList_store_row rfl 32 _ _ rfl (w.heap.size) #[.int .i64 0, .int .i64 0, .int .i64 0, .int .i64 0, .int .i64 0, .int .i64 0] rfl rfl 32 _ HRES4.out sizeQ rfl (one6 _ _ _ _ _ _) ?_)
              refine bodyPost_ret (v := .tuple #[.agg #[.int .i64 0, .int .i64 0, .int .i64 0, .int .i64 0, .int .i64 0, .int .i64 0], .int .i64 (10)]) (results_row_tmp (ty := 32) rfl _ _ (w.heap.size) 32 #[.int .i64 0, .int .i64 0, .int .i64 0, .int .i64 0, .int .i64 0, .int .i64 0] (0, 0) _ _ rfl rfl (setRow_heap _ _ _ _ _ _ HRES4.out) Tryd.underlying32 rfl sizeQ) rfl ⟨?_, below_setRow HB4.out (Nat.le_refl _) _⟩
              rw [← HA.out, HFOLD.out, HE.out]
              rfl
            · go_wp2_with fail
              refine (HL.out _).mono ?_
              rintro r w3 ⟨rfl, hB⟩
              have hq3 : w3.heap[w2.heap.size]? = _ := (hB.block _ hszr).trans HQ.out
              have hbox : ∀ o, w3.cell? ⟨w2.heap.size, o, none⟩ = (#[.int .i64 (q).n, .int .i64 (q).m.e, .int .i64 (q).m.d, .int .i64 (q).m.t, .int .i64 (q).m.a, .int .i64 (q).m.h] : Array Value)[o]? := fun o => cell_of_row w3 _ o _ _ _ hq3
              have HQ3 := Lib.hid hq3
              have hlt3 : w2.heap.size < w3.heap.size := (Array.getElem?_eq_some_iff.1 hq3).1
              have hlt0 : w.heap.size < w3.heap.size := by omega
              have hltg : zg < w3.heap.size := by omega
              have hfr : ∀ o, w3.frozen? ⟨w2.heap.size, o, none⟩ = false := fun o => free_row hq3
              have HB3 := Lib.hid (HBW.out.trans (hB.mono HBW.out.size))
              have hd0 : w3.cell? ⟨zg, j * 3, none⟩ = some (.string fu) := (hB.cell (p := ⟨zg, j * 3, none⟩) hzgr).trans hc0
              have hd1 : w3.cell? ⟨zg, j * 3 + 1, none⟩ = some (.int .i64 fe) := (hB.cell (p := ⟨zg, j * 3 + 1, none⟩) hzgr).trans hc1
              have hd2 : w3.cell? ⟨zg, j * 3 + 2, none⟩ = some (.bool true) := (hB.cell (p := ⟨zg, j * 3 + 2, none⟩) hzgr).trans hc2
              have HRES3 := Lib.hid ((HB3.out.block w.heap.size hlt).trans HRES2.out)
              have HBW3 := Lib.hid (HB2.out.trans (HB3.out.mono HB2.out.size))
              have HRES4 := Lib.hid ((Below.heap_alloc w3 (.cells #[.int .i64 kd.e, .int .i64 kd.d, .int .i64 kd.t, .int .i64 kd.a, .int .i64 kd.h] 23) w.heap.size hlt0).trans HRES3.out)
              have HB4 := Lib.hid (HBW3.out.alloc (by omega) (.cells #[.int .i64 kd.e, .int .i64 kd.d, .int .i64 kd.t, .int .i64 kd.a, .int .i64 kd.h] 23))
              clear hB hq3 hc0 hc1 hc2
              have HE := Lib.hid (HST.out 10 (by decide) (by unfold stepK; first | rfl | (rw [if_neg (by simp), if_pos (by omega)]) | (rw [if_pos (by simp; omega)]) | simp_all))
              clear HST HOK
              go_wp2_with (refine wpList_store_row rfl 32 _ _ rfl (w.heap.size) #[.int .i64 0, .int .i64 0, .int .i64 0, .int .i64 0, .int .i64 0, .int .i64 0] rfl rfl 32 _ HRES4.out sizeQ rfl (one6 _ _ _ _ _ _) ?_)
              refine bodyPost_ret (v := .tuple #[.agg #[.int .i64 0, .int .i64 0, .int .i64 0, .int .i64 0, .int .i64 0, .int .i64 0], .int .i64 (10)]) (results_row_tmp (ty := 32) rfl _ _ (w.heap.size) 32 #[.int .i64 0, .int .i64 0, .int .i64 0, .int .i64 0, .int .i64 0, .int .i64 0] (0, 0) _ _ rfl rfl (setRow_heap _ _ _ _ _ _ HRES4.out) Tryd.underlying32 rfl sizeQ) rfl ⟨?_, below_setRow HB4.out (Nat.le_refl _) _⟩
              rw [← HA.out, HFOLD.out, HE.out]
              rfl
          · have hks2 := hks rfl
            clear hks
            cases fg
            · by_cases he0 : fe = 0
              · subst he0
                go_wp2_with fail
                refine (HL.out _).mono ?_
                rintro r w3 ⟨rfl, hB⟩
                have hq3 : w3.heap[w2.heap.size]? = _ := (hB.block _ hszr).trans HQ.out
                have hbox : ∀ o, w3.cell? ⟨w2.heap.size, o, none⟩ = (#[.int .i64 (q).n, .int .i64 (q).m.e, .int .i64 (q).m.d, .int .i64 (q).m.t, .int .i64 (q).m.a, .int .i64 (q).m.h] : Array Value)[o]? := fun o => cell_of_row w3 _ o _ _ _ hq3
                have HQ3 := Lib.hid hq3
                have hlt3 : w2.heap.size < w3.heap.size := (Array.getElem?_eq_some_iff.1 hq3).1
                have hlt0 : w.heap.size < w3.heap.size := by omega
                have hltg : zg < w3.heap.size := by omega
                have hfr : ∀ o, w3.frozen? ⟨w2.heap.size, o, none⟩ = false := fun o => free_row hq3
                have HB3 := Lib.hid (HBW.out.trans (hB.mono HBW.out.size))
                have hd0 : w3.cell? ⟨zg, j * 3, none⟩ = some (.string fu) := (hB.cell (p := ⟨zg, j * 3, none⟩) hzgr).trans hc0
                have hd1 : w3.cell? ⟨zg, j * 3 + 1, none⟩ = some (.int .i64 0) := (hB.cell (p := ⟨zg, j * 3 + 1, none⟩) hzgr).trans hc1
                have hd2 : w3.cell? ⟨zg, j * 3 + 2, none⟩ = some (.bool false) := (hB.cell (p := ⟨zg, j * 3 + 2, none⟩) hzgr).trans hc2
                have HRES3 := Lib.hid ((HB3.out.block w.heap.size hlt).trans HRES2.out)
                have HBW3 := Lib.hid (HB2.out.trans (HB3.out.mono HB2.out.size))
                have HRES4 := Lib.hid ((Below.heap_alloc w3 (.cells #[.int .i64 kd.e, .int .i64 kd.d, .int .i64 kd.t, .int .i64 kd.a, .int .i64 kd.h] 23) w.heap.size hlt0).trans HRES3.out)
                have HB4 := Lib.hid (HBW3.out.alloc (by omega) (.cells #[.int .i64 kd.e, .int .i64 kd.d, .int .i64 kd.t, .int .i64 kd.a, .int .i64 kd.h] 23))
                clear hB hq3 hc0 hc1 hc2
                have HE := Lib.hid (HST.out 5 (by decide) (by unfold stepK; first | rfl | (rw [if_neg (by simp), if_pos (by omega)]) | (rw [if_pos (by simp; omega)]) | simp_all))
                clear HST HOK
                go_wp2_with (refine wpList_store_row rfl 32 _ _ rfl (w.heap.size) #[.int .i64 0, .int .i64 0, .int .i64 0, .int .i64 0, .int .i64 0, .int .i64 0] rfl rfl 32 _ HRES4.out sizeQ rfl (one6 _ _ _ _ _ _) ?_)
                refine bodyPost_ret (v := .tuple #[.agg #[.int .i64 0, .int .i64 0, .int .i64 0, .int .i64 0, .int .i64 0, .int .i64 0], .int .i64 (5)]) (results_row_tmp (ty := 32) rfl _ _ (w.heap.size) 32 #[.int .i64 0, .int .i64 0, .int .i64 0, .int .i64 0, .int .i64 0, .int .i64 0] (0, 0) _ _ rfl rfl (setRow_heap _ _ _ _ _ _ HRES4.out) Tryd.underlying32 rfl sizeQ) rfl ⟨?_, below_setRow HB4.out (Nat.le_refl _) _⟩
                rw [← HA.out, HFOLD.out, HE.out]
                rfl
              · have he0b : (fe == 0) = false := by simpa using he0
                by_cases he1 : fe < -8
                · have hx1 : (fe < -8) = True := by simp; omega
                  go_wp2_with fail
                  refine (HL.out _).mono ?_
                  rintro r w3 ⟨rfl, hB⟩
                  have hq3 : w3.heap[w2.heap.size]? = _ := (hB.block _ hszr).trans HQ.out
                  have hbox : ∀ o, w3.cell? ⟨w2.heap.size, o, none⟩ = (#[.int .i64 (q).n, .int .i64 (q).m.e, .int .i64 (q).m.d, .int .i64 (q).m.t, .int .i64 (q).m.a, .int .i64 (q).m.h] : Array Value)[o]? := fun o => cell_of_row w3 _ o _ _ _ hq3
                  have HQ3 := Lib.hid hq3
                  have hlt3 : w2.heap.size < w3.heap.size := (Array.getElem?_eq_some_iff.1 hq3).1
                  have hlt0 : w.heap.size < w3.heap.size := by omega
                  have hltg : zg < w3.heap.size := by omega
                  have hfr : ∀ o, w3.frozen? ⟨w2.heap.size, o, none⟩ = false := fun o => free_row hq3
                  have HB3 := Lib.hid (HBW.out.trans (hB.mono HBW.out.size))
                  have hd0 : w3.cell? ⟨zg, j * 3, none⟩ = some (.string fu) := (hB.cell (p := ⟨zg, j * 3, none⟩) hzgr).trans hc0
                  have hd1 : w3.cell? ⟨zg, j * 3 + 1, none⟩ = some (.int .i64 fe) := (hB.cell (p := ⟨zg, j * 3 + 1, none⟩) hzgr).trans hc1
                  have hd2 : w3.cell? ⟨zg, j * 3 + 2, none⟩ = some (.bool false) := (hB.cell (p := ⟨zg, j * 3 + 2, none⟩) hzgr).trans hc2
                  have HRES3 := Lib.hid ((HB3.out.block w.heap.size hlt).trans HRES2.out)
                  have HBW3 := Lib.hid (HB2.out.trans (HB3.out.mono HB2.out.size))
                  have HRES4 := Lib.hid ((Below.heap_alloc w3 (.cells #[.int .i64 kd.e, .int .i64 kd.d, .int .i64 kd.t, .int .i64 kd.a, .int .i64 kd.h] 23) w.heap.size hlt0).trans HRES3.out)
                  have HB4 := Lib.hid (HBW3.out.alloc (by omega) (.cells #[.int .i64 kd.e, .int .i64 kd.d, .int .i64 kd.t, .int .i64 kd.a, .int .i64 kd.h] 23))
                  clear hB hq3 hc0 hc1 hc2
                  have HE := Lib.hid (HST.out 5 (by decide) (by unfold stepK; first | rfl | (rw [if_neg (by simp), if_pos (by omega)]) | (rw [if_pos (by simp; omega)]) | simp_all))
                  clear HST HOK
                  go_wp2_with (refine wpList_store_row rfl 32 _ _ rfl (w.heap.size) #[.int .i64 0, .int .i64 0, .int .i64 0, .int .i64 0, .int .i64 0, .int .i64 0] rfl rfl 32 _ HRES4.out sizeQ rfl (one6 _ _ _ _ _ _) ?_)
                  refine bodyPost_ret (v := .tuple #[.agg #[.int .i64 0, .int .i64 0, .int .i64 0, .int .i64 0, .int .i64 0, .int .i64 0], .int .i64 (5)]) (results_row_tmp (ty := 32) rfl _ _ (w.heap.size) 32 #[.int .i64 0, .int .i64 0, .int .i64 0, .int .i64 0, .int .i64 0, .int .i64 0] (0, 0) _ _ rfl rfl (setRow_heap _ _ _ _ _ _ HRES4.out) Tryd.underlying32 rfl sizeQ) rfl ⟨?_, below_setRow HB4.out (Nat.le_refl _) _⟩
                  rw [← HA.out, HFOLD.out, HE.out]
                  rfl
                · have hx1 : (fe < -8) = False := by simp; omega
                  by_cases he2 : 8 < fe
                  · have hx2 : ((8 : Int) < fe) = True := by simp; omega
                    go_wp2_with fail
                    refine (HL.out _).mono ?_
                    rintro r w3 ⟨rfl, hB⟩
                    have hq3 : w3.heap[w2.heap.size]? = _ := (hB.block _ hszr).trans HQ.out
                    have hbox : ∀ o, w3.cell? ⟨w2.heap.size, o, none⟩ = (#[.int .i64 (q).n, .int .i64 (q).m.e, .int .i64 (q).m.d, .int .i64 (q).m.t, .int .i64 (q).m.a, .int .i64 (q).m.h] : Array Value)[o]? := fun o => cell_of_row w3 _ o _ _ _ hq3
                    have HQ3 := Lib.hid hq3
                    have hlt3 : w2.heap.size < w3.heap.size := (Array.getElem?_eq_some_iff.1 hq3).1
                    have hlt0 : w.heap.size < w3.heap.size := by omega
                    have hltg : zg < w3.heap.size := by omega
                    have hfr : ∀ o, w3.frozen? ⟨w2.heap.size, o, none⟩ = false := fun o => free_row hq3
                    have HB3 := Lib.hid (HBW.out.trans (hB.mono HBW.out.size))
                    have hd0 : w3.cell? ⟨zg, j * 3, none⟩ = some (.string fu) := (hB.cell (p := ⟨zg, j * 3, none⟩) hzgr).trans hc0
                    have hd1 : w3.cell? ⟨zg, j * 3 + 1, none⟩ = some (.int .i64 fe) := (hB.cell (p := ⟨zg, j * 3 + 1, none⟩) hzgr).trans hc1
                    have hd2 : w3.cell? ⟨zg, j * 3 + 2, none⟩ = some (.bool false) := (hB.cell (p := ⟨zg, j * 3 + 2, none⟩) hzgr).trans hc2
                    have HRES3 := Lib.hid ((HB3.out.block w.heap.size hlt).trans HRES2.out)
                    have HBW3 := Lib.hid (HB2.out.trans (HB3.out.mono HB2.out.size))
                    have HRES4 := Lib.hid ((Below.heap_alloc w3 (.cells #[.int .i64 kd.e, .int .i64 kd.d, .int .i64 kd.t, .int .i64 kd.a, .int .i64 kd.h] 23) w.heap.size hlt0).trans HRES3.out)
                    have HB4 := Lib.hid (HBW3.out.alloc (by omega) (.cells #[.int .i64 kd.e, .int .i64 kd.d, .int .i64 kd.t, .int .i64 kd.a, .int .i64 kd.h] 23))
                    clear hB hq3 hc0 hc1 hc2
                    have HE := Lib.hid (HST.out 5 (by decide) (by unfold stepK; first | rfl | (rw [if_neg (by simp), if_pos (by omega)]) | (rw [if_pos (by simp; omega)]) | simp_all))
                    clear HST HOK
                    go_wp2_with (refine wpList_store_row rfl 32 _ _ rfl (w.heap.size) #[.int .i64 0, .int .i64 0, .int .i64 0, .int .i64 0, .int .i64 0, .int .i64 0] rfl rfl 32 _ HRES4.out sizeQ rfl (one6 _ _ _ _ _ _) ?_)
                    refine bodyPost_ret (v := .tuple #[.agg #[.int .i64 0, .int .i64 0, .int .i64 0, .int .i64 0, .int .i64 0, .int .i64 0], .int .i64 (5)]) (results_row_tmp (ty := 32) rfl _ _ (w.heap.size) 32 #[.int .i64 0, .int .i64 0, .int .i64 0, .int .i64 0, .int .i64 0, .int .i64 0] (0, 0) _ _ rfl rfl (setRow_heap _ _ _ _ _ _ HRES4.out) Tryd.underlying32 rfl sizeQ) rfl ⟨?_, below_setRow HB4.out (Nat.le_refl _) _⟩
                    rw [← HA.out, HFOLD.out, HE.out]
                    rfl
                  · have hx2 : ((8 : Int) < fe) = False := by simp; omega
                    have hsc : -7730941132800 ≤ q.n * kk ∧ q.n * kk ≤ 7730941132800 := by
                      have h1 : q.n * kk ≤ 2147483648 * kk := Int.mul_le_mul_of_nonneg_right hn.2 (by omega)
                      have h2 : (-2147483648) * kk ≤ q.n * kk := Int.mul_le_mul_of_nonneg_right hn.1 (by omega)
                      omega
                    have HSC := Lib.hid (fun W => rscaled_any q.n kk W hsc)
                    have HSB := Lib.hid (scaled_bd q.n kk)
                    have HNX := Lib.hid (HOK.out (by first | rfl | simp | omega) (by omega))
                    have HRA := Lib.hid (fun W => rraised_any kd fe W (in_mono HKD.out (by omega)) (by omega))
                    have HRI := Lib.hid (raised_in8 HKD.out (show -8 ≤ fe ∧ fe ≤ 8 by omega))
                    have HTM := Lib.hid (fun W => rtimes_any q.m (kd.raised fe) W (in_mono HIN.out (by omega)) (in_mono HRI.out (by omega)))
                    obtain ⟨sn, hsn⟩ : ∃ sn, scaled q.n kk = sn := ⟨_, rfl⟩
                    rw [hsn] at HSC HSB HNX
                    obtain ⟨kr, hkr⟩ : ∃ kr, kd.raised fe = kr := ⟨_, rfl⟩
                    rw [hkr] at HNX HRA HRI HTM
                    clear HST HOK hsn hkr hsc
                    go_wp2_with fail
                    refine (HL.out _).mono ?_
                    rintro r w3 ⟨rfl, hB⟩
                    have hq3 : w3.heap[w2.heap.size]? = _ := (hB.block _ hszr).trans HQ.out
                    have hbox : ∀ o, w3.cell? ⟨w2.heap.size, o, none⟩ = (#[.int .i64 (q).n, .int .i64 (q).m.e, .int .i64 (q).m.d, .int .i64 (q).m.t, .int .i64 (q).m.a, .int .i64 (q).m.h] : Array Value)[o]? := fun o => cell_of_row w3 _ o _ _ _ hq3
                    have HQ3 := Lib.hid hq3
                    have hlt3 : w2.heap.size < w3.heap.size := (Array.getElem?_eq_some_iff.1 hq3).1
                    have hlt0 : w.heap.size < w3.heap.size := by omega
                    have hltg : zg < w3.heap.size := by omega
                    have hfr : ∀ o, w3.frozen? ⟨w2.heap.size, o, none⟩ = false := fun o => free_row hq3
                    have HB3 := Lib.hid (HBW.out.trans (hB.mono HBW.out.size))
                    have hd0 : w3.cell? ⟨zg, j * 3, none⟩ = some (.string fu) := (hB.cell (p := ⟨zg, j * 3, none⟩) hzgr).trans hc0
                    have hd1 : w3.cell? ⟨zg, j * 3 + 1, none⟩ = some (.int .i64 fe) := (hB.cell (p := ⟨zg, j * 3 + 1, none⟩) hzgr).trans hc1
                    have hd2 : w3.cell? ⟨zg, j * 3 + 2, none⟩ = some (.bool false) := (hB.cell (p := ⟨zg, j * 3 + 2, none⟩) hzgr).trans hc2
                    have HRES3 := Lib.hid ((HB3.out.block w.heap.size hlt).trans HRES2.out)
                    have HBW3 := Lib.hid (HB2.out.trans (HB3.out.mono HB2.out.size))
                    have HRES4 := Lib.hid ((Below.heap_alloc w3 (.cells #[.int .i64 kd.e, .int .i64 kd.d, .int .i64 kd.t, .int .i64 kd.a, .int .i64 kd.h] 23) w.heap.size hlt0).trans HRES3.out)
                    have HB4 := Lib.hid (HBW3.out.alloc (by omega) (.cells #[.int .i64 kd.e, .int .i64 kd.d, .int .i64 kd.t, .int .i64 kd.a, .int .i64 kd.h] 23))
                    clear hB hq3 hc0 hc1 hc2
                    go_wp2_with fail
                    refine (HSC.out _).mono ?_
                    rintro r w4 ⟨rfl, rfl⟩
                    go_wp2_with fail
                    have hs0 := set1 (i := 0) (.int .i64 sn) HQ3.out
                    have hwc : ∀ o, (w3.setCell ⟨w2.heap.size, 0, none⟩ (.int .i64 sn)).cell? ⟨zg, o, none⟩ = w3.cell? ⟨zg, o, none⟩ := fun o => World.cell?_setCell_other _ _ _ _ (by intro e; injection e with e; omega)
                    have hys : (w3.setCell ⟨w2.heap.size, 0, none⟩ (.int .i64 sn)).heap.size = w3.heap.size := by simp [World.setCell]
                    have hb0 := hs0.2 _ _ HB3.out (Nat.le_refl _)
                    replace hs0 := hs0.1
                    rw [← hys]
                    generalize w3.setCell ⟨w2.heap.size, 0, none⟩ (.int .i64 sn) = wy at hs0 hwc hys hb0 ⊢
                    have hlty : w2.heap.size < wy.heap.size := by omega
                    have hz1 : (wy.alloc (.cells #[.int .i64 kd.e, .int .i64 kd.d, .int .i64 kd.t, .int .i64 kd.a, .int .i64 kd.h] 23)).heap[w2.heap.size]? = some (.cells #[.int .i64 sn, .int .i64 q.m.e, .int .i64 q.m.d, .int .i64 q.m.t, .int .i64 q.m.a, .int .i64 q.m.h] 32 (0, 0)) := (Below.heap_alloc wy _ _ hlty).trans hs0
                    have hz2 : ∀ o, (wy.alloc (.cells #[.int .i64 kd.e, .int .i64 kd.d, .int .i64 kd.t, .int .i64 kd.a, .int .i64 kd.h] 23)).cell? ⟨wy.heap.size, o, none⟩ = (#[.int .i64 kd.e, .int .i64 kd.d, .int .i64 kd.t, .int .i64 kd.a, .int .i64 kd.h] : Array Value)[o]? := fun o => by rw [World.cell?_alloc_new]
                    have hz3 : (wy.alloc (.cells #[.int .i64 kd.e, .int .i64 kd.d, .int .i64 kd.t, .int .i64 kd.a, .int .i64 kd.h] 23)).cell? ⟨zg, j * 3 + 1, none⟩ = some (.int .i64 fe) := by rw [World.cell?_alloc_past _ _ _ (by omega), hwc]; exact hd1
                    have hz4 : Below w2.heap.size w2 (wy.alloc (.cells #[.int .i64 kd.e, .int .i64 kd.d, .int .i64 kd.t, .int .i64 kd.a, .int .i64 kd.h] 23)) := hb0.alloc hb0.size _
                    have hz5 : (wy.alloc (.cells #[.int .i64 kd.e, .int .i64 kd.d, .int .i64 kd.t, .int .i64 kd.a, .int .i64 kd.h] 23)).heap.size = wy.heap.size + 1 := by simp
                    obtain ⟨db, hdb⟩ : ∃ db, wy.heap.size = db := ⟨_, rfl⟩
                    rw [hdb] at hz2 hz5 hlty ⊢
                    generalize wy.alloc (.cells #[.int .i64 kd.e, .int .i64 kd.d, .int .i64 kd.t, .int .i64 kd.a, .int .i64 kd.h] 23) = wz at hz1 hz2 hz3 hz4 hz5 ⊢
                    have HS0 := Lib.hid (show HoldP db zg (j * 3 + 1) #[.int .i64 kd.e, .int .i64 kd.d, .int .i64 kd.t, .int .i64 kd.a, .int .i64 kd.h] fe wz.drew from ⟨hz2, hz3, by show db < wz.heap.size; omega, by show zg < wz.heap.size; omega⟩)
                    have HR0 := Lib.hid (show RowP w2.heap.size #[.int .i64 sn, .int .i64 q.m.e, .int .i64 q.m.d, .int .i64 q.m.t, .int .i64 q.m.a, .int .i64 q.m.h] w2 wz.drew from ⟨hz1, by show _ < wz.heap.size; omega, hz4.drew⟩)
                    clear hs0 hwc hys hb0 hdb hbox hfr hd0 hd1 hd2 hz1 hz2 hz3 hz4 hz5
                    refine wp_region_noPanic ?_
                    refine wp_region_held_drew (S := HoldP db zg (j * 3 + 1) #[.int .i64 kd.e, .int .i64 kd.d, .int .i64 kd.t, .int .i64 kd.a, .int .i64 kd.h] fe) (by kernel_rfl) (HS0.out) (fun hHeld => ?_)
                    refine wpAnyH_take (i := 0) (oi := { dst := some 85, op := _, type := _, pos := _, after := _, guard := _ }) (v := ?_) rfl (by kernel_rfl) (by kernel_rfl) (by kernel_rfl) (fun _ _ _ h => h) (Or.inl ⟨by rfl, ?_⟩) (by assumption) ?_
                    rotate_left
                    · (intro w hSw; (simp only [HoldP] at hSw); (try obtain ⟨hS0, hS1, hS2, hS3⟩ := hSw); go_simp)
                      first | done | with_reducible rfl
                    try simp only [Act.put, List.setIfInBounds_toArray, List.set_cons_zero, List.set_cons_succ]
                    refine wpAnyH_take (i := 2) (oi := { dst := some 87, op := _, type := _, pos := _, after := _, guard := _ }) (v := ?_) rfl (by kernel_rfl) (by kernel_rfl) (by kernel_rfl) (fun _ _ _ h => h) (Or.inl ⟨by rfl, ?_⟩) (by assumption) ?_
                    rotate_left
                    · (intro w hSw; (simp only [HoldP] at hSw); (try obtain ⟨hS0, hS1, hS2, hS3⟩ := hSw); go_simp)
                      first | done | with_reducible rfl
                    try simp only [Act.put, List.setIfInBounds_toArray, List.set_cons_zero, List.set_cons_succ]
                    refine wpAnyH_take (i := 3) (oi := { dst := some 88, op := _, type := _, pos := _, after := _, guard := _ }) (v := ?_) rfl (by kernel_rfl) (by kernel_rfl) (by kernel_rfl) (fun _ _ _ h => h) (Or.inl ⟨by rfl, ?_⟩) (by assumption) ?_
                    rotate_left
                    · (intro w hSw; (simp only [HoldP] at hSw); (try obtain ⟨hS0, hS1, hS2, hS3⟩ := hSw); go_simp)
                      first | done | with_reducible rfl
                    try simp only [Act.put, List.setIfInBounds_toArray, List.set_cons_zero, List.set_cons_succ]
                    refine wpAnyH_take (i := 4) (oi := { dst := some 89, op := _, type := _, pos := _, after := _, guard := _ }) (v := ?_) rfl (by kernel_rfl) (by kernel_rfl) (by kernel_rfl) (fun _ _ _ h => h) (Or.inl ⟨by rfl, ?_⟩) (by assumption) ?_
                    rotate_left
                    · (intro w hSw; (simp only [HoldP] at hSw); (try obtain ⟨hS0, hS1, hS2, hS3⟩ := hSw); go_simp)
                      first | done | with_reducible rfl
                    try simp only [Act.put, List.setIfInBounds_toArray, List.set_cons_zero, List.set_cons_succ]
                    refine wpAnyH_take (i := 5) (oi := { dst := some 90, op := _, type := _, pos := _, after := _, guard := _ }) (v := ?_) rfl (by kernel_rfl) (by kernel_rfl) (by kernel_rfl) (fun _ _ _ h => h) (Or.inl ⟨by rfl, ?_⟩) (by assumption) ?_
                    rotate_left
                    · (intro w hSw; (simp only [HoldP] at hSw); (try obtain ⟨hS0, hS1, hS2, hS3⟩ := hSw); go_simp)
                      first | done | with_reducible rfl
                    try simp only [Act.put, List.setIfInBounds_toArray, List.set_cons_zero, List.set_cons_succ]
                    refine wpAnyH_take (i := 6) (oi := { dst := some 91, op := _, type := _, pos := _, after := _, guard := _ }) (v := ?_) rfl (by kernel_rfl) (by kernel_rfl) (by kernel_rfl) (fun _ _ _ h => h) (Or.inl ⟨by rfl, ?_⟩) (by assumption) ?_
                    rotate_left
                    · (intro w hSw; (simp only [HoldP] at hSw); (try obtain ⟨hS0, hS1, hS2, hS3⟩ := hSw); go_simp)
                      first | done | with_reducible rfl
                    try simp only [Act.put, List.setIfInBounds_toArray, List.set_cons_zero, List.set_cons_succ]
                    refine wpAnyH_take (i := 7) (oi := { dst := some 92, op := _, type := _, pos := _, after := _, guard := _ }) (v := ?_) rfl (by kernel_rfl) (by kernel_rfl) (by kernel_rfl) (fun _ _ _ h => h) (Or.inl ⟨by rfl, ?_⟩) (by assumption) ?_
                    rotate_left
                    · (intro w hSw; (simp only [HoldP] at hSw); (try obtain ⟨hS0, hS1, hS2, hS3⟩ := hSw); go_simp)
                      first | done | with_reducible rfl
                    try simp only [Act.put, List.setIfInBounds_toArray, List.set_cons_zero, List.set_cons_succ]
                    refine wpAnyH_ready (rs := [1, 8]) (by kernel_rfl) (by simp) ?_
                    refine AllReadyH.cons (o := { dst := some 86, op := _, type := _, pos := _, after := _, guard := _ }) rfl (fun K hK => ?_) (AllReadyH.cons (o := { dst := some 93, op := _, type := _, pos := _, after := _, guard := _ }) rfl (fun K hK => ?_) AllReadyH.nil)
                    · have hbox := HR0.out.box
                      refine if_wanted rfl ?_
                      go_simp
                      clear hbox
                      refine hK.out _ _ HS0.out (fun hH2 => ?_)
                      clear hK K hHeld
                      rename _ => hHeld
                      try simp only [Act.put, List.setIfInBounds_toArray, List.set_cons_zero, List.set_cons_succ]
                      refine wpAnyH_ready (rs := [8]) (by kernel_rfl) (by simp) ?_
                      refine AllReadyH.cons (o := { dst := some 93, op := _, type := _, pos := _, after := _, guard := _ }) rfl (fun K hK => ?_) AllReadyH.nil
                      go_simp
                      refine (HRA.out _).mono ?_
                      rintro r w5 ⟨rfl, hB⟩
                      have HS1 := Lib.hid (HS0.out.step hB)
                      have HR1 := Lib.hid (HR0.out.step hB)
                      clear hB
                      go_wp2_with fail
                      refine hK.out _ _ HS1.out (fun hH2 => ?_)
                      clear hK K hHeld
                      rename _ => hHeld
                      try simp only [Act.put, List.setIfInBounds_toArray, List.set_cons_zero, List.set_cons_succ]
                      refine wpAnyH_ready (rs := [9]) (by kernel_rfl) (by simp) ?_
                      refine AllReadyH.cons (o := { dst := some 94, op := _, type := _, pos := _, after := _, guard := _ }) rfl (fun K hK => ?_) AllReadyH.nil
                      go_simp
                      refine (HTM.out _).mono ?_
                      rintro r w6 ⟨rfl, hB⟩
                      have HS2 := Lib.hid (HS1.out.step hB)
                      have HR2 := Lib.hid (HR1.out.step hB)
                      clear hB
                      go_wp2_with fail
                      refine hK.out _ _ HS2.out (fun hH2 => ?_)
                      clear hK K hHeld
                      rename _ => hHeld
                      try simp only [Act.put, List.setIfInBounds_toArray, List.set_cons_zero, List.set_cons_succ]
                      refine wpAnyH_take (i := 10) (oi := { dst := some 95, op := _, type := _, pos := _, after := _, guard := _ }) (v := ?_) rfl (by kernel_rfl) (by kernel_rfl) (by kernel_rfl) (fun _ _ _ h => h) (Or.inl ⟨by rfl, ?_⟩) (by assumption) ?_
                      rotate_left
                      · (intro w hSw; (simp only [HoldP] at hSw); (try obtain ⟨hS0, hS1, hS2, hS3⟩ := hSw); go_simp)
                        first | done | with_reducible rfl
                      try simp only [Act.put, List.setIfInBounds_toArray, List.set_cons_zero, List.set_cons_succ]
                      refine wpAnyH_ready (rs := [11]) (by kernel_rfl) (by simp) ?_
                      refine AllReadyH.cons (o := { dst := none, op := _, type := _, pos := _, after := _, guard := _ }) rfl (fun K hK => ?_) AllReadyH.nil
                      refine if_wanted rfl ?_
                      have hbox := HR2.out.box
                      have hfr := HR2.out.fr
                      have HSS := Lib.hid (HS2.out.set5 (.int .i64 (q.m.times kr).e) (.int .i64 (q.m.times kr).d) (.int .i64 (q.m.times kr).t) (.int .i64 (q.m.times kr).a) (.int .i64 (q.m.times kr).h) (show w2.heap.size ≠ db by omega) (show w2.heap.size ≠ zg by omega))
                      have HRS := Lib.hid (HR2.out.set5 (.int .i64 (q.m.times kr).e) (.int .i64 (q.m.times kr).d) (.int .i64 (q.m.times kr).t) (.int .i64 (q.m.times kr).a) (.int .i64 (q.m.times kr).h))
                      go_wp2_with fail
                      refine hK.out _ _ HSS.out (fun hH2 => ?_)
                      clear hK K hHeld
                      rename _ => hHeld
                      try simp only [Act.put]
                      refine wpAnyH_done (by kernel_rfl) ?_ _
                      refine NoPanic.normal ?_
                      clear hHeld hbox hfr
                      go_wp2_with fail
                      go_roundg (gk - 1)
                      case measure => have := HG.out; have := HLT.out; omega
                      case rel =>
                        exact ⟨j + 1, ⟨sn, q.m.times kr⟩, by have := HG.out; have := HLT.out; omega, by go_num, HFOLD.out.trans HNX.out, times_in HIN.out HRI.out (by omega), HSB.out, HRS.out.2.2, HRS.out.1⟩
                    · go_simp
                      refine (HRA.out _).mono ?_
                      rintro r w5 ⟨rfl, hB⟩
                      have HS1 := Lib.hid (HS0.out.step hB)
                      have HR1 := Lib.hid (HR0.out.step hB)
                      clear hB
                      go_wp2_with fail
                      refine hK.out _ _ HS1.out (fun hH2 => ?_)
                      clear hK K hHeld
                      rename _ => hHeld
                      try simp only [Act.put, List.setIfInBounds_toArray, List.set_cons_zero, List.set_cons_succ]
                      refine wpAnyH_ready (rs := [1]) (by kernel_rfl) (by simp) ?_
                      refine AllReadyH.cons (o := { dst := some 86, op := _, type := _, pos := _, after := _, guard := _ }) rfl (fun K hK => ?_) AllReadyH.nil
                      have hbox := HR1.out.box
                      refine if_wanted rfl ?_
                      go_simp
                      clear hbox
                      refine hK.out _ _ HS1.out (fun hH2 => ?_)
                      clear hK K hHeld
                      rename _ => hHeld
                      try simp only [Act.put, List.setIfInBounds_toArray, List.set_cons_zero, List.set_cons_succ]
                      refine wpAnyH_ready (rs := [9]) (by kernel_rfl) (by simp) ?_
                      refine AllReadyH.cons (o := { dst := some 94, op := _, type := _, pos := _, after := _, guard := _ }) rfl (fun K hK => ?_) AllReadyH.nil
                      go_simp
                      refine (HTM.out _).mono ?_
                      rintro r w6 ⟨rfl, hB⟩
                      have HS2 := Lib.hid (HS1.out.step hB)
                      have HR2 := Lib.hid (HR1.out.step hB)
                      clear hB
                      go_wp2_with fail
                      refine hK.out _ _ HS2.out (fun hH2 => ?_)
                      clear hK K hHeld
                      rename _ => hHeld
                      try simp only [Act.put, List.setIfInBounds_toArray, List.set_cons_zero, List.set_cons_succ]
                      refine wpAnyH_take (i := 10) (oi := { dst := some 95, op := _, type := _, pos := _, after := _, guard := _ }) (v := ?_) rfl (by kernel_rfl) (by kernel_rfl) (by kernel_rfl) (fun _ _ _ h => h) (Or.inl ⟨by rfl, ?_⟩) (by assumption) ?_
                      rotate_left
                      · (intro w hSw; (simp only [HoldP] at hSw); (try obtain ⟨hS0, hS1, hS2, hS3⟩ := hSw); go_simp)
                        first | done | with_reducible rfl
                      try simp only [Act.put, List.setIfInBounds_toArray, List.set_cons_zero, List.set_cons_succ]
                      refine wpAnyH_ready (rs := [11]) (by kernel_rfl) (by simp) ?_
                      refine AllReadyH.cons (o := { dst := none, op := _, type := _, pos := _, after := _, guard := _ }) rfl (fun K hK => ?_) AllReadyH.nil
                      refine if_wanted rfl ?_
                      have hbox := HR2.out.box
                      have hfr := HR2.out.fr
                      have HSS := Lib.hid (HS2.out.set5 (.int .i64 (q.m.times kr).e) (.int .i64 (q.m.times kr).d) (.int .i64 (q.m.times kr).t) (.int .i64 (q.m.times kr).a) (.int .i64 (q.m.times kr).h) (show w2.heap.size ≠ db by omega) (show w2.heap.size ≠ zg by omega))
                      have HRS := Lib.hid (HR2.out.set5 (.int .i64 (q.m.times kr).e) (.int .i64 (q.m.times kr).d) (.int .i64 (q.m.times kr).t) (.int .i64 (q.m.times kr).a) (.int .i64 (q.m.times kr).h))
                      go_wp2_with fail
                      refine hK.out _ _ HSS.out (fun hH2 => ?_)
                      clear hK K hHeld
                      rename _ => hHeld
                      try simp only [Act.put]
                      refine wpAnyH_done (by kernel_rfl) ?_ _
                      refine NoPanic.normal ?_
                      clear hHeld hbox hfr
                      go_wp2_with fail
                      go_roundg (gk - 1)
                      case measure => have := HG.out; have := HLT.out; omega
                      case rel =>
                        exact ⟨j + 1, ⟨sn, q.m.times kr⟩, by have := HG.out; have := HLT.out; omega, by go_num, HFOLD.out.trans HNX.out, times_in HIN.out HRI.out (by omega), HSB.out, HRS.out.2.2, HRS.out.1⟩
            · by_cases hk1 : kk = 1
              · subst hk1
                by_cases he0 : fe = 0
                · subst he0
                  go_wp2_with fail
                  refine (HL.out _).mono ?_
                  rintro r w3 ⟨rfl, hB⟩
                  have hq3 : w3.heap[w2.heap.size]? = _ := (hB.block _ hszr).trans HQ.out
                  have hbox : ∀ o, w3.cell? ⟨w2.heap.size, o, none⟩ = (#[.int .i64 (q).n, .int .i64 (q).m.e, .int .i64 (q).m.d, .int .i64 (q).m.t, .int .i64 (q).m.a, .int .i64 (q).m.h] : Array Value)[o]? := fun o => cell_of_row w3 _ o _ _ _ hq3
                  have HQ3 := Lib.hid hq3
                  have hlt3 : w2.heap.size < w3.heap.size := (Array.getElem?_eq_some_iff.1 hq3).1
                  have hlt0 : w.heap.size < w3.heap.size := by omega
                  have hltg : zg < w3.heap.size := by omega
                  have hfr : ∀ o, w3.frozen? ⟨w2.heap.size, o, none⟩ = false := fun o => free_row hq3
                  have HB3 := Lib.hid (HBW.out.trans (hB.mono HBW.out.size))
                  have hd0 : w3.cell? ⟨zg, j * 3, none⟩ = some (.string fu) := (hB.cell (p := ⟨zg, j * 3, none⟩) hzgr).trans hc0
                  have hd1 : w3.cell? ⟨zg, j * 3 + 1, none⟩ = some (.int .i64 0) := (hB.cell (p := ⟨zg, j * 3 + 1, none⟩) hzgr).trans hc1
                  have hd2 : w3.cell? ⟨zg, j * 3 + 2, none⟩ = some (.bool true) := (hB.cell (p := ⟨zg, j * 3 + 2, none⟩) hzgr).trans hc2
                  have HRES3 := Lib.hid ((HB3.out.block w.heap.size hlt).trans HRES2.out)
                  have HBW3 := Lib.hid (HB2.out.trans (HB3.out.mono HB2.out.size))
                  have HRES4 := Lib.hid ((Below.heap_alloc w3 (.cells #[.int .i64 kd.e, .int .i64 kd.d, .int .i64 kd.t, .int .i64 kd.a, .int .i64 kd.h] 23) w.heap.size hlt0).trans HRES3.out)
                  have HB4 := Lib.hid (HBW3.out.alloc (by omega) (.cells #[.int .i64 kd.e, .int .i64 kd.d, .int .i64 kd.t, .int .i64 kd.a, .int .i64 kd.h] 23))
                  clear hB hq3 hc0 hc1 hc2
                  have HE := Lib.hid (HST.out 5 (by decide) (by unfold stepK; first | rfl | (rw [if_neg (by simp), if_pos (by omega)]) | (rw [if_pos (by simp; omega)]) | simp_all))
                  clear HST HOK
                  go_wp2_with (refine wpList_store_row rfl 32 _ _ rfl (w.heap.size) #[.int .i64 0, .int .i64 0, .int .i64 0, .int .i64 0, .int .i64 0, .int .i64 0] rfl rfl 32 _ HRES4.out sizeQ rfl (one6 _ _ _ _ _ _) ?_)
                  refine bodyPost_ret (v := .tuple #[.agg #[.int .i64 0, .int .i64 0, .int .i64 0, .int .i64 0, .int .i64 0, .int .i64 0], .int .i64 (5)]) (results_row_tmp (ty := 32) rfl _ _ (w.heap.size) 32 #[.int .i64 0, .int .i64 0, .int .i64 0, .int .i64 0, .int .i64 0, .int .i64 0] (0, 0) _ _ rfl rfl (setRow_heap _ _ _ _ _ _ HRES4.out) Tryd.underlying32 rfl sizeQ) rfl ⟨?_, below_setRow HB4.out (Nat.le_refl _) _⟩
                  rw [← HA.out, HFOLD.out, HE.out]
                  rfl
                · have he0b : (fe == 0) = false := by simpa using he0
                  by_cases he1 : fe < -8
                  · have hx1 : (fe < -8) = True := by simp; omega
                    go_wp2_with fail
                    refine (HL.out _).mono ?_
                    rintro r w3 ⟨rfl, hB⟩
                    have hq3 : w3.heap[w2.heap.size]? = _ := (hB.block _ hszr).trans HQ.out
                    have hbox : ∀ o, w3.cell? ⟨w2.heap.size, o, none⟩ = (#[.int .i64 (q).n, .int .i64 (q).m.e, .int .i64 (q).m.d, .int .i64 (q).m.t, .int .i64 (q).m.a, .int .i64 (q).m.h] : Array Value)[o]? := fun o => cell_of_row w3 _ o _ _ _ hq3
                    have HQ3 := Lib.hid hq3
                    have hlt3 : w2.heap.size < w3.heap.size := (Array.getElem?_eq_some_iff.1 hq3).1
                    have hlt0 : w.heap.size < w3.heap.size := by omega
                    have hltg : zg < w3.heap.size := by omega
                    have hfr : ∀ o, w3.frozen? ⟨w2.heap.size, o, none⟩ = false := fun o => free_row hq3
                    have HB3 := Lib.hid (HBW.out.trans (hB.mono HBW.out.size))
                    have hd0 : w3.cell? ⟨zg, j * 3, none⟩ = some (.string fu) := (hB.cell (p := ⟨zg, j * 3, none⟩) hzgr).trans hc0
                    have hd1 : w3.cell? ⟨zg, j * 3 + 1, none⟩ = some (.int .i64 fe) := (hB.cell (p := ⟨zg, j * 3 + 1, none⟩) hzgr).trans hc1
                    have hd2 : w3.cell? ⟨zg, j * 3 + 2, none⟩ = some (.bool true) := (hB.cell (p := ⟨zg, j * 3 + 2, none⟩) hzgr).trans hc2
                    have HRES3 := Lib.hid ((HB3.out.block w.heap.size hlt).trans HRES2.out)
                    have HBW3 := Lib.hid (HB2.out.trans (HB3.out.mono HB2.out.size))
                    have HRES4 := Lib.hid ((Below.heap_alloc w3 (.cells #[.int .i64 kd.e, .int .i64 kd.d, .int .i64 kd.t, .int .i64 kd.a, .int .i64 kd.h] 23) w.heap.size hlt0).trans HRES3.out)
                    have HB4 := Lib.hid (HBW3.out.alloc (by omega) (.cells #[.int .i64 kd.e, .int .i64 kd.d, .int .i64 kd.t, .int .i64 kd.a, .int .i64 kd.h] 23))
                    clear hB hq3 hc0 hc1 hc2
                    have HE := Lib.hid (HST.out 5 (by decide) (by unfold stepK; first | rfl | (rw [if_neg (by simp), if_pos (by omega)]) | (rw [if_pos (by simp; omega)]) | simp_all))
                    clear HST HOK
                    go_wp2_with (refine wpList_store_row rfl 32 _ _ rfl (w.heap.size) #[.int .i64 0, .int .i64 0, .int .i64 0, .int .i64 0, .int .i64 0, .int .i64 0] rfl rfl 32 _ HRES4.out sizeQ rfl (one6 _ _ _ _ _ _) ?_)
                    refine bodyPost_ret (v := .tuple #[.agg #[.int .i64 0, .int .i64 0, .int .i64 0, .int .i64 0, .int .i64 0, .int .i64 0], .int .i64 (5)]) (results_row_tmp (ty := 32) rfl _ _ (w.heap.size) 32 #[.int .i64 0, .int .i64 0, .int .i64 0, .int .i64 0, .int .i64 0, .int .i64 0] (0, 0) _ _ rfl rfl (setRow_heap _ _ _ _ _ _ HRES4.out) Tryd.underlying32 rfl sizeQ) rfl ⟨?_, below_setRow HB4.out (Nat.le_refl _) _⟩
                    rw [← HA.out, HFOLD.out, HE.out]
                    rfl
                  · have hx1 : (fe < -8) = False := by simp; omega
                    by_cases he2 : 8 < fe
                    · have hx2 : ((8 : Int) < fe) = True := by simp; omega
                      go_wp2_with fail
                      refine (HL.out _).mono ?_
                      rintro r w3 ⟨rfl, hB⟩
                      have hq3 : w3.heap[w2.heap.size]? = _ := (hB.block _ hszr).trans HQ.out
                      have hbox : ∀ o, w3.cell? ⟨w2.heap.size, o, none⟩ = (#[.int .i64 (q).n, .int .i64 (q).m.e, .int .i64 (q).m.d, .int .i64 (q).m.t, .int .i64 (q).m.a, .int .i64 (q).m.h] : Array Value)[o]? := fun o => cell_of_row w3 _ o _ _ _ hq3
                      have HQ3 := Lib.hid hq3
                      have hlt3 : w2.heap.size < w3.heap.size := (Array.getElem?_eq_some_iff.1 hq3).1
                      have hlt0 : w.heap.size < w3.heap.size := by omega
                      have hltg : zg < w3.heap.size := by omega
                      have hfr : ∀ o, w3.frozen? ⟨w2.heap.size, o, none⟩ = false := fun o => free_row hq3
                      have HB3 := Lib.hid (HBW.out.trans (hB.mono HBW.out.size))
                      have hd0 : w3.cell? ⟨zg, j * 3, none⟩ = some (.string fu) := (hB.cell (p := ⟨zg, j * 3, none⟩) hzgr).trans hc0
                      have hd1 : w3.cell? ⟨zg, j * 3 + 1, none⟩ = some (.int .i64 fe) := (hB.cell (p := ⟨zg, j * 3 + 1, none⟩) hzgr).trans hc1
                      have hd2 : w3.cell? ⟨zg, j * 3 + 2, none⟩ = some (.bool true) := (hB.cell (p := ⟨zg, j * 3 + 2, none⟩) hzgr).trans hc2
                      have HRES3 := Lib.hid ((HB3.out.block w.heap.size hlt).trans HRES2.out)
                      have HBW3 := Lib.hid (HB2.out.trans (HB3.out.mono HB2.out.size))
                      have HRES4 := Lib.hid ((Below.heap_alloc w3 (.cells #[.int .i64 kd.e, .int .i64 kd.d, .int .i64 kd.t, .int .i64 kd.a, .int .i64 kd.h] 23) w.heap.size hlt0).trans HRES3.out)
                      have HB4 := Lib.hid (HBW3.out.alloc (by omega) (.cells #[.int .i64 kd.e, .int .i64 kd.d, .int .i64 kd.t, .int .i64 kd.a, .int .i64 kd.h] 23))
                      clear hB hq3 hc0 hc1 hc2
                      have HE := Lib.hid (HST.out 5 (by decide) (by unfold stepK; first | rfl | (rw [if_neg (by simp), if_pos (by omega)]) | (rw [if_pos (by simp; omega)]) | simp_all))
                      clear HST HOK
                      go_wp2_with (refine wpList_store_row rfl 32 _ _ rfl (w.heap.size) #[.int .i64 0, .int .i64 0, .int .i64 0, .int .i64 0, .int .i64 0, .int .i64 0] rfl rfl 32 _ HRES4.out sizeQ rfl (one6 _ _ _ _ _ _) ?_)
                      refine bodyPost_ret (v := .tuple #[.agg #[.int .i64 0, .int .i64 0, .int .i64 0, .int .i64 0, .int .i64 0, .int .i64 0], .int .i64 (5)]) (results_row_tmp (ty := 32) rfl _ _ (w.heap.size) 32 #[.int .i64 0, .int .i64 0, .int .i64 0, .int .i64 0, .int .i64 0, .int .i64 0] (0, 0) _ _ rfl rfl (setRow_heap _ _ _ _ _ _ HRES4.out) Tryd.underlying32 rfl sizeQ) rfl ⟨?_, below_setRow HB4.out (Nat.le_refl _) _⟩
                      rw [← HA.out, HFOLD.out, HE.out]
                      rfl
                    · have hx2 : ((8 : Int) < fe) = False := by simp; omega
                      have hsc : -7730941132800 ≤ q.n * 1 ∧ q.n * 1 ≤ 7730941132800 := by
                        have h1 : q.n * 1 ≤ 2147483648 * 1 := Int.mul_le_mul_of_nonneg_right hn.2 (by omega)
                        have h2 : (-2147483648) * 1 ≤ q.n * 1 := Int.mul_le_mul_of_nonneg_right hn.1 (by omega)
                        omega
                      have HSC := Lib.hid (fun W => rscaled_any q.n 1 W hsc)
                      have HSB := Lib.hid (scaled_bd q.n 1)
                      have HNX := Lib.hid (HOK.out (by first | rfl | simp | omega) (by omega))
                      have HRA := Lib.hid (fun W => rraised_any kd fe W (in_mono HKD.out (by omega)) (by omega))
                      have HRI := Lib.hid (raised_in8 HKD.out (show -8 ≤ fe ∧ fe ≤ 8 by omega))
                      have HTM := Lib.hid (fun W => rtimes_any q.m (kd.raised fe) W (in_mono HIN.out (by omega)) (in_mono HRI.out (by omega)))
                      obtain ⟨sn, hsn⟩ : ∃ sn, scaled q.n 1 = sn := ⟨_, rfl⟩
                      rw [hsn] at HSC HSB HNX
                      obtain ⟨kr, hkr⟩ : ∃ kr, kd.raised fe = kr := ⟨_, rfl⟩
                      rw [hkr] at HNX HRA HRI HTM
                      clear HST HOK hsn hkr hsc
                      go_wp2_with fail
                      refine (HL.out _).mono ?_
                      rintro r w3 ⟨rfl, hB⟩
                      have hq3 : w3.heap[w2.heap.size]? = _ := (hB.block _ hszr).trans HQ.out
                      have hbox : ∀ o, w3.cell? ⟨w2.heap.size, o, none⟩ = (#[.int .i64 (q).n, .int .i64 (q).m.e, .int .i64 (q).m.d, .int .i64 (q).m.t, .int .i64 (q).m.a, .int .i64 (q).m.h] : Array Value)[o]? := fun o => cell_of_row w3 _ o _ _ _ hq3
                      have HQ3 := Lib.hid hq3
                      have hlt3 : w2.heap.size < w3.heap.size := (Array.getElem?_eq_some_iff.1 hq3).1
                      have hlt0 : w.heap.size < w3.heap.size := by omega
                      have hltg : zg < w3.heap.size := by omega
                      have hfr : ∀ o, w3.frozen? ⟨w2.heap.size, o, none⟩ = false := fun o => free_row hq3
                      have HB3 := Lib.hid (HBW.out.trans (hB.mono HBW.out.size))
                      have hd0 : w3.cell? ⟨zg, j * 3, none⟩ = some (.string fu) := (hB.cell (p := ⟨zg, j * 3, none⟩) hzgr).trans hc0
                      have hd1 : w3.cell? ⟨zg, j * 3 + 1, none⟩ = some (.int .i64 fe) := (hB.cell (p := ⟨zg, j * 3 + 1, none⟩) hzgr).trans hc1
                      have hd2 : w3.cell? ⟨zg, j * 3 + 2, none⟩ = some (.bool true) := (hB.cell (p := ⟨zg, j * 3 + 2, none⟩) hzgr).trans hc2
                      have HRES3 := Lib.hid ((HB3.out.block w.heap.size hlt).trans HRES2.out)
                      have HBW3 := Lib.hid (HB2.out.trans (HB3.out.mono HB2.out.size))
                      have HRES4 := Lib.hid ((Below.heap_alloc w3 (.cells #[.int .i64 kd.e, .int .i64 kd.d, .int .i64 kd.t, .int .i64 kd.a, .int .i64 kd.h] 23) w.heap.size hlt0).trans HRES3.out)
                      have HB4 := Lib.hid (HBW3.out.alloc (by omega) (.cells #[.int .i64 kd.e, .int .i64 kd.d, .int .i64 kd.t, .int .i64 kd.a, .int .i64 kd.h] 23))
                      clear hB hq3 hc0 hc1 hc2
                      go_wp2_with fail
                      refine (HSC.out _).mono ?_
                      rintro r w4 ⟨rfl, rfl⟩
                      go_wp2_with fail
                      have hs0 := set1 (i := 0) (.int .i64 sn) HQ3.out
                      have hwc : ∀ o, (w3.setCell ⟨w2.heap.size, 0, none⟩ (.int .i64 sn)).cell? ⟨zg, o, none⟩ = w3.cell? ⟨zg, o, none⟩ := fun o => World.cell?_setCell_other _ _ _ _ (by intro e; injection e with e; omega)
                      have hys : (w3.setCell ⟨w2.heap.size, 0, none⟩ (.int .i64 sn)).heap.size = w3.heap.size := by simp [World.setCell]
                      have hb0 := hs0.2 _ _ HB3.out (Nat.le_refl _)
                      replace hs0 := hs0.1
                      rw [← hys]
                      generalize w3.setCell ⟨w2.heap.size, 0, none⟩ (.int .i64 sn) = wy at hs0 hwc hys hb0 ⊢
                      have hlty : w2.heap.size < wy.heap.size := by omega
                      have hz1 : (wy.alloc (.cells #[.int .i64 kd.e, .int .i64 kd.d, .int .i64 kd.t, .int .i64 kd.a, .int .i64 kd.h] 23)).heap[w2.heap.size]? = some (.cells #[.int .i64 sn, .int .i64 q.m.e, .int .i64 q.m.d, .int .i64 q.m.t, .int .i64 q.m.a, .int .i64 q.m.h] 32 (0, 0)) := (Below.heap_alloc wy _ _ hlty).trans hs0
                      have hz2 : ∀ o, (wy.alloc (.cells #[.int .i64 kd.e, .int .i64 kd.d, .int .i64 kd.t, .int .i64 kd.a, .int .i64 kd.h] 23)).cell? ⟨wy.heap.size, o, none⟩ = (#[.int .i64 kd.e, .int .i64 kd.d, .int .i64 kd.t, .int .i64 kd.a, .int .i64 kd.h] : Array Value)[o]? := fun o => by rw [World.cell?_alloc_new]
                      have hz3 : (wy.alloc (.cells #[.int .i64 kd.e, .int .i64 kd.d, .int .i64 kd.t, .int .i64 kd.a, .int .i64 kd.h] 23)).cell? ⟨zg, j * 3 + 1, none⟩ = some (.int .i64 fe) := by rw [World.cell?_alloc_past _ _ _ (by omega), hwc]; exact hd1
                      have hz4 : Below w2.heap.size w2 (wy.alloc (.cells #[.int .i64 kd.e, .int .i64 kd.d, .int .i64 kd.t, .int .i64 kd.a, .int .i64 kd.h] 23)) := hb0.alloc hb0.size _
                      have hz5 : (wy.alloc (.cells #[.int .i64 kd.e, .int .i64 kd.d, .int .i64 kd.t, .int .i64 kd.a, .int .i64 kd.h] 23)).heap.size = wy.heap.size + 1 := by simp
                      obtain ⟨db, hdb⟩ : ∃ db, wy.heap.size = db := ⟨_, rfl⟩
                      rw [hdb] at hz2 hz5 hlty ⊢
                      generalize wy.alloc (.cells #[.int .i64 kd.e, .int .i64 kd.d, .int .i64 kd.t, .int .i64 kd.a, .int .i64 kd.h] 23) = wz at hz1 hz2 hz3 hz4 hz5 ⊢
                      have HS0 := Lib.hid (show HoldP db zg (j * 3 + 1) #[.int .i64 kd.e, .int .i64 kd.d, .int .i64 kd.t, .int .i64 kd.a, .int .i64 kd.h] fe wz.drew from ⟨hz2, hz3, by show db < wz.heap.size; omega, by show zg < wz.heap.size; omega⟩)
                      have HR0 := Lib.hid (show RowP w2.heap.size #[.int .i64 sn, .int .i64 q.m.e, .int .i64 q.m.d, .int .i64 q.m.t, .int .i64 q.m.a, .int .i64 q.m.h] w2 wz.drew from ⟨hz1, by show _ < wz.heap.size; omega, hz4.drew⟩)
                      clear hs0 hwc hys hb0 hdb hbox hfr hd0 hd1 hd2 hz1 hz2 hz3 hz4 hz5
                      refine wp_region_noPanic ?_
                      refine wp_region_held_drew (S := HoldP db zg (j * 3 + 1) #[.int .i64 kd.e, .int .i64 kd.d, .int .i64 kd.t, .int .i64 kd.a, .int .i64 kd.h] fe) (by kernel_rfl) (HS0.out) (fun hHeld => ?_)
                      refine wpAnyH_take (i := 0) (oi := { dst := some 85, op := _, type := _, pos := _, after := _, guard := _ }) (v := ?_) rfl (by kernel_rfl) (by kernel_rfl) (by kernel_rfl) (fun _ _ _ h => h) (Or.inl ⟨by rfl, ?_⟩) (by assumption) ?_
                      rotate_left
                      · (intro w hSw; (simp only [HoldP] at hSw); (try obtain ⟨hS0, hS1, hS2, hS3⟩ := hSw); go_simp)
                        first | done | with_reducible rfl
                      try simp only [Act.put, List.setIfInBounds_toArray, List.set_cons_zero, List.set_cons_succ]
                      refine wpAnyH_take (i := 2) (oi := { dst := some 87, op := _, type := _, pos := _, after := _, guard := _ }) (v := ?_) rfl (by kernel_rfl) (by kernel_rfl) (by kernel_rfl) (fun _ _ _ h => h) (Or.inl ⟨by rfl, ?_⟩) (by assumption) ?_
                      rotate_left
                      · (intro w hSw; (simp only [HoldP] at hSw); (try obtain ⟨hS0, hS1, hS2, hS3⟩ := hSw); go_simp)
                        first | done | with_reducible rfl
                      try simp only [Act.put, List.setIfInBounds_toArray, List.set_cons_zero, List.set_cons_succ]
                      refine wpAnyH_take (i := 3) (oi := { dst := some 88, op := _, type := _, pos := _, after := _, guard := _ }) (v := ?_) rfl (by kernel_rfl) (by kernel_rfl) (by kernel_rfl) (fun _ _ _ h => h) (Or.inl ⟨by rfl, ?_⟩) (by assumption) ?_
                      rotate_left
                      · (intro w hSw; (simp only [HoldP] at hSw); (try obtain ⟨hS0, hS1, hS2, hS3⟩ := hSw); go_simp)
                        first | done | with_reducible rfl
                      try simp only [Act.put, List.setIfInBounds_toArray, List.set_cons_zero, List.set_cons_succ]
                      refine wpAnyH_take (i := 4) (oi := { dst := some 89, op := _, type := _, pos := _, after := _, guard := _ }) (v := ?_) rfl (by kernel_rfl) (by kernel_rfl) (by kernel_rfl) (fun _ _ _ h => h) (Or.inl ⟨by rfl, ?_⟩) (by assumption) ?_
                      rotate_left
                      · (intro w hSw; (simp only [HoldP] at hSw); (try obtain ⟨hS0, hS1, hS2, hS3⟩ := hSw); go_simp)
                        first | done | with_reducible rfl
                      try simp only [Act.put, List.setIfInBounds_toArray, List.set_cons_zero, List.set_cons_succ]
                      refine wpAnyH_take (i := 5) (oi := { dst := some 90, op := _, type := _, pos := _, after := _, guard := _ }) (v := ?_) rfl (by kernel_rfl) (by kernel_rfl) (by kernel_rfl) (fun _ _ _ h => h) (Or.inl ⟨by rfl, ?_⟩) (by assumption) ?_
                      rotate_left
                      · (intro w hSw; (simp only [HoldP] at hSw); (try obtain ⟨hS0, hS1, hS2, hS3⟩ := hSw); go_simp)
                        first | done | with_reducible rfl
                      try simp only [Act.put, List.setIfInBounds_toArray, List.set_cons_zero, List.set_cons_succ]
                      refine wpAnyH_take (i := 6) (oi := { dst := some 91, op := _, type := _, pos := _, after := _, guard := _ }) (v := ?_) rfl (by kernel_rfl) (by kernel_rfl) (by kernel_rfl) (fun _ _ _ h => h) (Or.inl ⟨by rfl, ?_⟩) (by assumption) ?_
                      rotate_left
                      · (intro w hSw; (simp only [HoldP] at hSw); (try obtain ⟨hS0, hS1, hS2, hS3⟩ := hSw); go_simp)
                        first | done | with_reducible rfl
                      try simp only [Act.put, List.setIfInBounds_toArray, List.set_cons_zero, List.set_cons_succ]
                      refine wpAnyH_take (i := 7) (oi := { dst := some 92, op := _, type := _, pos := _, after := _, guard := _ }) (v := ?_) rfl (by kernel_rfl) (by kernel_rfl) (by kernel_rfl) (fun _ _ _ h => h) (Or.inl ⟨by rfl, ?_⟩) (by assumption) ?_
                      rotate_left
                      · (intro w hSw; (simp only [HoldP] at hSw); (try obtain ⟨hS0, hS1, hS2, hS3⟩ := hSw); go_simp)
                        first | done | with_reducible rfl
                      try simp only [Act.put, List.setIfInBounds_toArray, List.set_cons_zero, List.set_cons_succ]
                      refine wpAnyH_ready (rs := [1, 8]) (by kernel_rfl) (by simp) ?_
                      refine AllReadyH.cons (o := { dst := some 86, op := _, type := _, pos := _, after := _, guard := _ }) rfl (fun K hK => ?_) (AllReadyH.cons (o := { dst := some 93, op := _, type := _, pos := _, after := _, guard := _ }) rfl (fun K hK => ?_) AllReadyH.nil)
                      · have hbox := HR0.out.box
                        refine if_wanted rfl ?_
                        go_simp
                        clear hbox
                        refine hK.out _ _ HS0.out (fun hH2 => ?_)
                        clear hK K hHeld
                        rename _ => hHeld
                        try simp only [Act.put, List.setIfInBounds_toArray, List.set_cons_zero, List.set_cons_succ]
                        refine wpAnyH_ready (rs := [8]) (by kernel_rfl) (by simp) ?_
                        refine AllReadyH.cons (o := { dst := some 93, op := _, type := _, pos := _, after := _, guard := _ }) rfl (fun K hK => ?_) AllReadyH.nil
                        go_simp
                        refine (HRA.out _).mono ?_
                        rintro r w5 ⟨rfl, hB⟩
                        have HS1 := Lib.hid (HS0.out.step hB)
                        have HR1 := Lib.hid (HR0.out.step hB)
                        clear hB
                        go_wp2_with fail
                        refine hK.out _ _ HS1.out (fun hH2 => ?_)
                        clear hK K hHeld
                        rename _ => hHeld
                        try simp only [Act.put, List.setIfInBounds_toArray, List.set_cons_zero, List.set_cons_succ]
                        refine wpAnyH_ready (rs := [9]) (by kernel_rfl) (by simp) ?_
                        refine AllReadyH.cons (o := { dst := some 94, op := _, type := _, pos := _, after := _, guard := _ }) rfl (fun K hK => ?_) AllReadyH.nil
                        go_simp
                        refine (HTM.out _).mono ?_
                        rintro r w6 ⟨rfl, hB⟩
                        have HS2 := Lib.hid (HS1.out.step hB)
                        have HR2 := Lib.hid (HR1.out.step hB)
                        clear hB
                        go_wp2_with fail
                        refine hK.out _ _ HS2.out (fun hH2 => ?_)
                        clear hK K hHeld
                        rename _ => hHeld
                        try simp only [Act.put, List.setIfInBounds_toArray, List.set_cons_zero, List.set_cons_succ]
                        refine wpAnyH_take (i := 10) (oi := { dst := some 95, op := _, type := _, pos := _, after := _, guard := _ }) (v := ?_) rfl (by kernel_rfl) (by kernel_rfl) (by kernel_rfl) (fun _ _ _ h => h) (Or.inl ⟨by rfl, ?_⟩) (by assumption) ?_
                        rotate_left
                        · (intro w hSw; (simp only [HoldP] at hSw); (try obtain ⟨hS0, hS1, hS2, hS3⟩ := hSw); go_simp)
                          first | done | with_reducible rfl
                        try simp only [Act.put, List.setIfInBounds_toArray, List.set_cons_zero, List.set_cons_succ]
                        refine wpAnyH_ready (rs := [11]) (by kernel_rfl) (by simp) ?_
                        refine AllReadyH.cons (o := { dst := none, op := _, type := _, pos := _, after := _, guard := _ }) rfl (fun K hK => ?_) AllReadyH.nil
                        refine if_wanted rfl ?_
                        have hbox := HR2.out.box
                        have hfr := HR2.out.fr
                        have HSS := Lib.hid (HS2.out.set5 (.int .i64 (q.m.times kr).e) (.int .i64 (q.m.times kr).d) (.int .i64 (q.m.times kr).t) (.int .i64 (q.m.times kr).a) (.int .i64 (q.m.times kr).h) (show w2.heap.size ≠ db by omega) (show w2.heap.size ≠ zg by omega))
                        have HRS := Lib.hid (HR2.out.set5 (.int .i64 (q.m.times kr).e) (.int .i64 (q.m.times kr).d) (.int .i64 (q.m.times kr).t) (.int .i64 (q.m.times kr).a) (.int .i64 (q.m.times kr).h))
                        go_wp2_with fail
                        refine hK.out _ _ HSS.out (fun hH2 => ?_)
                        clear hK K hHeld
                        rename _ => hHeld
                        try simp only [Act.put]
                        refine wpAnyH_done (by kernel_rfl) ?_ _
                        refine NoPanic.normal ?_
                        clear hHeld hbox hfr
                        go_wp2_with fail
                        go_roundg (gk - 1)
                        case measure => have := HG.out; have := HLT.out; omega
                        case rel =>
                          exact ⟨j + 1, ⟨sn, q.m.times kr⟩, by have := HG.out; have := HLT.out; omega, by go_num, HFOLD.out.trans HNX.out, times_in HIN.out HRI.out (by omega), HSB.out, HRS.out.2.2, HRS.out.1⟩
                      · go_simp
                        refine (HRA.out _).mono ?_
                        rintro r w5 ⟨rfl, hB⟩
                        have HS1 := Lib.hid (HS0.out.step hB)
                        have HR1 := Lib.hid (HR0.out.step hB)
                        clear hB
                        go_wp2_with fail
                        refine hK.out _ _ HS1.out (fun hH2 => ?_)
                        clear hK K hHeld
                        rename _ => hHeld
                        try simp only [Act.put, List.setIfInBounds_toArray, List.set_cons_zero, List.set_cons_succ]
                        refine wpAnyH_ready (rs := [1]) (by kernel_rfl) (by simp) ?_
                        refine AllReadyH.cons (o := { dst := some 86, op := _, type := _, pos := _, after := _, guard := _ }) rfl (fun K hK => ?_) AllReadyH.nil
                        have hbox := HR1.out.box
                        refine if_wanted rfl ?_
                        go_simp
                        clear hbox
                        refine hK.out _ _ HS1.out (fun hH2 => ?_)
                        clear hK K hHeld
                        rename _ => hHeld
                        try simp only [Act.put, List.setIfInBounds_toArray, List.set_cons_zero, List.set_cons_succ]
                        refine wpAnyH_ready (rs := [9]) (by kernel_rfl) (by simp) ?_
                        refine AllReadyH.cons (o := { dst := some 94, op := _, type := _, pos := _, after := _, guard := _ }) rfl (fun K hK => ?_) AllReadyH.nil
                        go_simp
                        refine (HTM.out _).mono ?_
                        rintro r w6 ⟨rfl, hB⟩
                        have HS2 := Lib.hid (HS1.out.step hB)
                        have HR2 := Lib.hid (HR1.out.step hB)
                        clear hB
                        go_wp2_with fail
                        refine hK.out _ _ HS2.out (fun hH2 => ?_)
                        clear hK K hHeld
                        rename _ => hHeld
                        try simp only [Act.put, List.setIfInBounds_toArray, List.set_cons_zero, List.set_cons_succ]
                        refine wpAnyH_take (i := 10) (oi := { dst := some 95, op := _, type := _, pos := _, after := _, guard := _ }) (v := ?_) rfl (by kernel_rfl) (by kernel_rfl) (by kernel_rfl) (fun _ _ _ h => h) (Or.inl ⟨by rfl, ?_⟩) (by assumption) ?_
                        rotate_left
                        · (intro w hSw; (simp only [HoldP] at hSw); (try obtain ⟨hS0, hS1, hS2, hS3⟩ := hSw); go_simp)
                          first | done | with_reducible rfl
                        try simp only [Act.put, List.setIfInBounds_toArray, List.set_cons_zero, List.set_cons_succ]
                        refine wpAnyH_ready (rs := [11]) (by kernel_rfl) (by simp) ?_
                        refine AllReadyH.cons (o := { dst := none, op := _, type := _, pos := _, after := _, guard := _ }) rfl (fun K hK => ?_) AllReadyH.nil
                        refine if_wanted rfl ?_
                        have hbox := HR2.out.box
                        have hfr := HR2.out.fr
                        have HSS := Lib.hid (HS2.out.set5 (.int .i64 (q.m.times kr).e) (.int .i64 (q.m.times kr).d) (.int .i64 (q.m.times kr).t) (.int .i64 (q.m.times kr).a) (.int .i64 (q.m.times kr).h) (show w2.heap.size ≠ db by omega) (show w2.heap.size ≠ zg by omega))
                        have HRS := Lib.hid (HR2.out.set5 (.int .i64 (q.m.times kr).e) (.int .i64 (q.m.times kr).d) (.int .i64 (q.m.times kr).t) (.int .i64 (q.m.times kr).a) (.int .i64 (q.m.times kr).h))
                        go_wp2_with fail
                        refine hK.out _ _ HSS.out (fun hH2 => ?_)
                        clear hK K hHeld
                        rename _ => hHeld
                        try simp only [Act.put]
                        refine wpAnyH_done (by kernel_rfl) ?_ _
                        refine NoPanic.normal ?_
                        clear hHeld hbox hfr
                        go_wp2_with fail
                        go_roundg (gk - 1)
                        case measure => have := HG.out; have := HLT.out; omega
                        case rel =>
                          exact ⟨j + 1, ⟨sn, q.m.times kr⟩, by have := HG.out; have := HLT.out; omega, by go_num, HFOLD.out.trans HNX.out, times_in HIN.out HRI.out (by omega), HSB.out, HRS.out.2.2, HRS.out.1⟩
              · have hk1b : (kk == 1) = false := by simpa using hk1
                go_wp2_with fail
                refine (HL.out _).mono ?_
                rintro r w3 ⟨rfl, hB⟩
                have hq3 : w3.heap[w2.heap.size]? = _ := (hB.block _ hszr).trans HQ.out
                have hbox : ∀ o, w3.cell? ⟨w2.heap.size, o, none⟩ = (#[.int .i64 (q).n, .int .i64 (q).m.e, .int .i64 (q).m.d, .int .i64 (q).m.t, .int .i64 (q).m.a, .int .i64 (q).m.h] : Array Value)[o]? := fun o => cell_of_row w3 _ o _ _ _ hq3
                have HQ3 := Lib.hid hq3
                have hlt3 : w2.heap.size < w3.heap.size := (Array.getElem?_eq_some_iff.1 hq3).1
                have hlt0 : w.heap.size < w3.heap.size := by omega
                have hltg : zg < w3.heap.size := by omega
                have hfr : ∀ o, w3.frozen? ⟨w2.heap.size, o, none⟩ = false := fun o => free_row hq3
                have HB3 := Lib.hid (HBW.out.trans (hB.mono HBW.out.size))
                have hd0 : w3.cell? ⟨zg, j * 3, none⟩ = some (.string fu) := (hB.cell (p := ⟨zg, j * 3, none⟩) hzgr).trans hc0
                have hd1 : w3.cell? ⟨zg, j * 3 + 1, none⟩ = some (.int .i64 fe) := (hB.cell (p := ⟨zg, j * 3 + 1, none⟩) hzgr).trans hc1
                have hd2 : w3.cell? ⟨zg, j * 3 + 2, none⟩ = some (.bool true) := (hB.cell (p := ⟨zg, j * 3 + 2, none⟩) hzgr).trans hc2
                have HRES3 := Lib.hid ((HB3.out.block w.heap.size hlt).trans HRES2.out)
                have HBW3 := Lib.hid (HB2.out.trans (HB3.out.mono HB2.out.size))
                have HRES4 := Lib.hid ((Below.heap_alloc w3 (.cells #[.int .i64 kd.e, .int .i64 kd.d, .int .i64 kd.t, .int .i64 kd.a, .int .i64 kd.h] 23) w.heap.size hlt0).trans HRES3.out)
                have HB4 := Lib.hid (HBW3.out.alloc (by omega) (.cells #[.int .i64 kd.e, .int .i64 kd.d, .int .i64 kd.t, .int .i64 kd.a, .int .i64 kd.h] 23))
                clear hB hq3 hc0 hc1 hc2
                have HE := Lib.hid (HST.out 10 (by decide) (by unfold stepK; first | rfl | (rw [if_neg (by simp), if_pos (by omega)]) | (rw [if_pos (by simp; omega)]) | simp_all))
                clear HST HOK
                go_wp2_with (refine wpList_store_row rfl 32 _ _ rfl (w.heap.size) #[.int .i64 0, .int .i64 0, .int .i64 0, .int .i64 0, .int .i64 0, .int .i64 0] rfl rfl 32 _ HRES4.out sizeQ rfl (one6 _ _ _ _ _ _) ?_)
                refine bodyPost_ret (v := .tuple #[.agg #[.int .i64 0, .int .i64 0, .int .i64 0, .int .i64 0, .int .i64 0, .int .i64 0], .int .i64 (10)]) (results_row_tmp (ty := 32) rfl _ _ (w.heap.size) 32 #[.int .i64 0, .int .i64 0, .int .i64 0, .int .i64 0, .int .i64 0, .int .i64 0] (0, 0) _ _ rfl rfl (setRow_heap _ _ _ _ _ _ HRES4.out) Tryd.underlying32 rfl sizeQ) rfl ⟨?_, below_setRow HB4.out (Nat.le_refl _) _⟩
                rw [← HA.out, HFOLD.out, HE.out]
                rfl
        · have hi : ¬ (j : Int) < (fs.length : Int) := by omega
          have hjl : j = fs.length := by omega
          subst hjl
          have HFIN := Lib.hid (show A = chk q by
            rw [← HA.out, HFOLD.out, List.drop_length]
            rfl)
          have HCK := Lib.hid (fun W => rchecked_any q W)
          have hbox : ∀ o, wr.cell? ⟨w2.heap.size, o, none⟩ = (#[.int .i64 (q).n, .int .i64 (q).m.e, .int .i64 (q).m.d, .int .i64 (q).m.t, .int .i64 (q).m.a, .int .i64 (q).m.h] : Array Value)[o]? := fun o => cell_of_row wr _ o _ _ _ HQ.out
          go_wp2_with fail
          refine (HCK.out _).mono ?_
          rintro r w3 ⟨rfl, hB⟩
          have HB3 := Lib.hid (HB2.out.trans ((HBW.out.trans (hB.mono HBW.out.size)).mono HB2.out.size))
          have HRES3 := Lib.hid ((hB.block w.heap.size (by omega)).trans ((HBW.out.block w.heap.size hlt).trans HRES2.out))
          rw [← HFIN.out]
          clear hB hbox
          go_wp2_with (refine wpList_store_row rfl 32 _ _ rfl (w.heap.size) #[.int .i64 (A.1).n, .int .i64 (A.1).m.e, .int .i64 (A.1).m.d, .int .i64 (A.1).m.t, .int .i64 (A.1).m.a, .int .i64 (A.1).m.h] rfl rfl 32 _ HRES3.out sizeQ rfl (one6 _ _ _ _ _ _) ?_)
          refine bodyPost_ret (v := .tuple #[.agg #[.int .i64 (A.1).n, .int .i64 (A.1).m.e, .int .i64 (A.1).m.d, .int .i64 (A.1).m.t, .int .i64 (A.1).m.a, .int .i64 (A.1).m.h], .int .i64 (A.2)]) (results_row_tmp (ty := 32) rfl _ _ (w.heap.size) 32 #[.int .i64 (A.1).n, .int .i64 (A.1).m.e, .int .i64 (A.1).m.d, .int .i64 (A.1).m.t, .int .i64 (A.1).m.a, .int .i64 (A.1).m.h] (0, 0) _ _ rfl rfl (setRow_heap _ _ _ _ _ _ HRES3.out) Tryd.underlying32 rfl sizeQ) rfl ⟨?_, below_setRow HB3.out (Nat.le_refl _) _⟩
          rfl
end U
end Go.Proofs.YthcehhonahgfmaaDoor
