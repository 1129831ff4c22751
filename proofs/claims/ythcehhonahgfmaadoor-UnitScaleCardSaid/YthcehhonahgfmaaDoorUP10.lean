/-
  Contract of the program's Parse.
-/
import Derived.Test.YthcehhonahgfmaaDoorUP1
import Derived.Test.YthcehhonahgfmaaDoorUP2
import Derived.Test.YthcehhonahgfmaaDoorUP8
import Derived.Test.YthcehhonahgfmaaDoorUP9
namespace Go.Proofs.YthcehhonahgfmaaDoor
open Go.RowKit
namespace U
open H
set_option linter.unusedVariables false
set_option maxRecDepth 100000
theorem pmean_in (f : PF) : (pmeanT f).1.in 8 := by
  unfold pmeanT
  dsimp only
  have hl : (lookT f.u).1.in 1 := by
    have h1 : (fun k : Dm × Int × Bool => k.1.in 1) (lookT f.u) := by
      unfold lookT
      repeat (refine ite_any (P := fun k : Dm × Int × Bool => k.1.in 1) (by decide) ?_)
      decide
    exact h1
  generalize lookT f.u = k at hl
  obtain ⟨⟨a, b, c, d, e⟩, sz, ok⟩ := k
  obtain ⟨h1, h2, h3, h4, h5⟩ := hl
  dsimp only at h1 h2 h3 h4 h5 ⊢
  split
  · decide
  · split
    · unfold Dm.in; dsimp only; omega
    · split
      · decide
      · split
        · decide
        · rename_i h
          have hm : ∀ v x : Int, -8 ≤ v → v ≤ 8 → -1 ≤ x → x ≤ 1 → -8 ≤ v * x ∧ v * x ≤ 8 := by
            intro v x hv1 hv2 hx1 hx2
            have : x = -1 ∨ x = 0 ∨ x = 1 := by omega
            rcases this with rfl | rfl | rfl <;> omega
          unfold Dm.in Dm.raised
          dsimp only
          exact ⟨hm _ _ (by omega) (by omega) h1.1 h1.2, hm _ _ (by omega) (by omega) h2.1 h2.2, hm _ _ (by omega) (by omega) h3.1 h3.2, hm _ _ (by omega) (by omega) h4.1 h4.2, hm _ _ (by omega) (by omega) h5.1 h5.2⟩
theorem pmean_size (f : PF) : 0 ≤ (pmeanT f).2.1 ∧ (pmeanT f).2.1 ≤ 3600 := by
  have hl := look_size f.u
  unfold pmeanT
  dsimp only
  generalize lookT f.u = k at hl
  obtain ⟨m, sz, ok⟩ := k
  dsimp only at hl ⊢
  split
  · decide
  · rename_i h
    have := hl (by simpa using h)
    split
    · dsimp only; omega
    · split
      · decide
      · split
        · decide
        · dsimp only; omega
theorem times_in {x y : Dm} {a b c : Int} (hx : x.in a) (hy : y.in b) (h : a + b ≤ c) : (x.times y).in c := by
  obtain ⟨h1, h2, h3, h4, h5⟩ := hx
  obtain ⟨g1, g2, g3, g4, g5⟩ := hy
  unfold Dm.times Dm.in
  dsimp only
  omega
theorem in_mono {x : Dm} {a b : Int} (hx : x.in a) (h : a ≤ b) : x.in b := by
  obtain ⟨h1, h2, h3, h4, h5⟩ := hx
  unfold Dm.in
  omega
theorem scaled_bd (n k : Int) : -2147483648 ≤ scaled n k ∧ scaled n k ≤ 2147483648 := by unfold scaled; omega
theorem pfV_len (fs : List PF) : (pfV fs).length = 3 * fs.length := by
  unfold pfV
  induction fs with
  | nil => rfl
  | cons f fs ih => rw [List.map_cons, List.flatten_cons, List.length_append, ih]; simp; omega
theorem pfV_at : ∀ (fs : List PF) (j : Nat) (f : PF), fs[j]? = some f → (pfV fs)[j * 3]? = some (.string ⟨f.u.toArray⟩) ∧ (pfV fs)[j * 3 + 1]? = some (.string ⟨f.x.toArray⟩) ∧ (pfV fs)[j * 3 + 2]? = some (.bool f.g)
  | [], j, f, h => by simp at h
  | a :: fs, 0, f, h => by
    simp only [List.getElem?_cons_zero, Option.some.injEq] at h
    subst h
    exact ⟨rfl, rfl, rfl⟩
  | a :: fs, j + 1, f, h => by
    simp only [List.getElem?_cons_succ] at h
    have ih := pfV_at fs j f h
    have e : pfV (a :: fs) = .string ⟨a.u.toArray⟩ :: .string ⟨a.x.toArray⟩ :: .bool a.g :: pfV fs := rfl
    rw [e, show (j + 1) * 3 = j * 3 + 1 + 1 + 1 by omega]
    simp only [List.getElem?_cons_succ]
    exact ih
theorem pfold_cons {fs : List PF} {j : Nat} {f : PF} {q : Qt} (h : fs[j]? = some f) (h0 : (pmeanT f).2.2 = 0) : pfold (fs.drop j) q = pfold (fs.drop (j + 1)) ⟨scaled q.n (pmeanT f).2.1, q.m.times (pmeanT f).1⟩ := by
  obtain ⟨hj, he⟩ := List.getElem?_eq_some_iff.1 h
  rw [List.drop_eq_getElem_cons hj, he, pfold, if_neg (fun e => e h0)]
theorem pfold_stop {fs : List PF} {j : Nat} {f : PF} {q : Qt} (h : fs[j]? = some f) (h0 : (pmeanT f).2.2 ≠ 0) : pfold (fs.drop j) q = .error (pmeanT f).2.2 := by
  obtain ⟨hj, he⟩ := List.getElem?_eq_some_iff.1 h
  rw [List.drop_eq_getElem_cons hj, he, pfold, if_pos h0]
theorem set1 {w : World} {g i : Nat} {cur : Array Value} {t : TypeId} (v : Value) (h : w.heap[g]? = some (.cells cur t (0, 0))) :
    (w.setCell ⟨g, i, none⟩ v).heap[g]? = some (.cells (cur.setIfInBounds i v) t (0, 0)) ∧ ∀ B w0, Below B w0 w → B ≤ g → Below B w0 (w.setCell ⟨g, i, none⟩ v) := by
  rw [setCell_eq_setRow w g i cur t (0, 0) v h]
  exact ⟨setRow_heap _ _ _ _ _ _ h, fun B w0 hb hle => below_setRow hb hle _⟩
theorem set5 {w : World} {g : Nat} {n x1 x2 x3 x4 x5 : Value} {t : TypeId} (y1 y2 y3 y4 y5 : Value) (h : w.heap[g]? = some (.cells #[n, x1, x2, x3, x4, x5] t (0, 0))) :
    (((((w.setCell ⟨g, 1, none⟩ y1).setCell ⟨g, 2, none⟩ y2).setCell ⟨g, 3, none⟩ y3).setCell ⟨g, 4, none⟩ y4).setCell ⟨g, 5, none⟩ y5).heap[g]? = some (.cells #[n, y1, y2, y3, y4, y5] t (0, 0)) ∧ ∀ B w0, Below B w0 w → B ≤ g → Below B w0 (((((w.setCell ⟨g, 1, none⟩ y1).setCell ⟨g, 2, none⟩ y2).setCell ⟨g, 3, none⟩ y3).setCell ⟨g, 4, none⟩ y4).setCell ⟨g, 5, none⟩ y5) := by
  have h1 := set1 (i := 1) y1 h
  have h2 := set1 (i := 2) y2 h1.1
  have h3 := set1 (i := 3) y3 h2.1
  have h4 := set1 (i := 4) y4 h3.1
  have h5 := set1 (i := 5) y5 h4.1
  exact ⟨h5.1, fun B w0 hb hle => h5.2 B w0 (h4.2 B w0 (h3.2 B w0 (h2.2 B w0 (h1.2 B w0 hb hle) hle) hle) hle) hle⟩
theorem row_form {w : World} {base : Nat} {e : TypeId} {sz : Nat} {z : Value} {n : Nat} {xs : List Value} (h : w.ownsRow base e sz z n xs) :
    ∃ (g : Nat) (za : Option Addr) (zc : Nat), z = .slice za n zc ∧ (0 < n → za = some ⟨g, 0, none⟩ ∧ g < w.heap.size ∧ ∀ i u, xs[i]? = some u → w.cell? ⟨g, i, none⟩ = some u) := by
  obtain ⟨hl, ⟨rfl, rfl⟩ | ⟨g, cap, cur, rfl, hg, hc, h1, h2, h3, h4⟩⟩ := h
  · exact ⟨0, none, 0, rfl, fun h => by omega⟩
  · refine ⟨g, _, cap, rfl, fun _ => ⟨rfl, ?_, fun i u hu => ?_⟩⟩
    · exact (Array.getElem?_eq_some_iff.1 hc).1
    · rw [cell_of_row w g i _ _ _ hc]
      rw [← h4, List.getElem?_take] at hu
      split at hu
      · simpa using hu
      · cases hu
set_option maxHeartbeats 1000000 in
theorem pparse_any (s : ByteArray) (w : World) (tb : Tab w) (hs : s.size ≤ 140737488351232) :
    Calls Tryd.prog 37 #[.string s] w fun r w' => r = .returned (.tuple #[.agg #[.int .i64 (parseT s.toList).1.n, .int .i64 (parseT s.toList).1.m.e, .int .i64 (parseT s.toList).1.m.d, .int .i64 (parseT s.toList).1.m.t, .int .i64 (parseT s.toList).1.m.a, .int .i64 (parseT s.toList).1.m.h], .int .i64 (parseT s.toList).2]) ∧ Below w.heap.size w w' := by
  rw [ByteArray.toList_eq, ← pparse_eq]
  obtain ⟨A, hA⟩ : ∃ A, pparseT s.data.toList = A := ⟨_, rfl⟩
  rw [hA]
  unfold pparseT at hA
  have hsl : s.data.toList.length = s.size := rfl
  have HRES := Lib.hid (heap_alloc_new w (.cells #[.int .i64 0, .int .i64 0, .int .i64 0, .int .i64 0, .int .i64 0, .int .i64 0] 32))
  by_cases h100 : 100 < s.size
  · rw [if_pos (by omega)] at hA
    subst hA
    have hi : (100 : Int) < (s.size : Int) := by omega
    have HB := Lib.hid ((Below.refl w.heap.size w).alloc (Nat.le_refl _) (.cells #[.int .i64 0, .int .i64 0, .int .i64 0, .int .i64 0, .int .i64 0, .int .i64 0] 32))
    clear hsl h100
    go_enter Tryd.func37, Tryd.ntmps37
    go_wp2_with (refine wpList_store_row rfl 32 _ _ rfl (w.heap.size) #[.int .i64 0, .int .i64 0, .int .i64 0, .int .i64 0, .int .i64 0, .int .i64 0] rfl rfl 32 _ HRES.out sizeQ rfl (one6 _ _ _ _ _ _) ?_)
    refine bodyPost_ret (v := .tuple #[.agg #[.int .i64 0, .int .i64 0, .int .i64 0, .int .i64 0, .int .i64 0, .int .i64 0], .int .i64 (2)]) (results_row_tmp (ty := 32) rfl _ _ (w.heap.size) 32 #[.int .i64 0, .int .i64 0, .int .i64 0, .int .i64 0, .int .i64 0, .int .i64 0] (0, 0) _ _ rfl rfl (setRow_heap _ _ _ _ _ _ HRES.out) Tryd.underlying32 rfl sizeQ) rfl ⟨?_, below_setRow HB.out (Nat.le_refl _) _⟩
    rfl
  · rw [if_neg (by omega)] at hA
    have hi : ¬ (100 : Int) < (s.size : Int) := by omega
    have HSP := Lib.hid (fun W tb => psplit_any s W tb (by omega))
    have HT1 := Lib.hid (tb.below ((Below.refl w.heap.size w).alloc (Nat.le_refl _) (.cells #[.int .i64 0, .int .i64 0, .int .i64 0, .int .i64 0, .int .i64 0, .int .i64 0] 32)))
    cases hp : psplT s.data.toList with
    | none =>
      rw [hp] at hA HSP
      subst hA
      clear hp h100
      go_enter Tryd.func37, Tryd.ntmps37
      go_wp2_with fail
      refine (HSP.out _ HT1.out).mono ?_
      rintro r w1 ⟨hB, hr⟩
      obtain rfl : r = _ := hr
      have HRES1 := Lib.hid ((hB.block w.heap.size (by simp)).trans HRES.out)
      have HB := Lib.hid (((Below.refl w.heap.size w).alloc (Nat.le_refl _) (.cells #[.int .i64 0, .int .i64 0, .int .i64 0, .int .i64 0, .int .i64 0, .int .i64 0] 32)).trans (hB.mono (by simp)))
      clear hB
      go_wp2_with (refine wpList_store_row rfl 32 _ _ rfl (w.heap.size) #[.int .i64 0, .int .i64 0, .int .i64 0, .int .i64 0, .int .i64 0, .int .i64 0] rfl rfl 32 _ HRES1.out sizeQ rfl (one6 _ _ _ _ _ _) ?_)
      refine bodyPost_ret (v := .tuple #[.agg #[.int .i64 0, .int .i64 0, .int .i64 0, .int .i64 0, .int .i64 0, .int .i64 0], .int .i64 (7)]) (results_row_tmp (ty := 32) rfl _ _ (w.heap.size) 32 #[.int .i64 0, .int .i64 0, .int .i64 0, .int .i64 0, .int .i64 0, .int .i64 0] (0, 0) _ _ rfl rfl (setRow_heap _ _ _ _ _ _ HRES1.out) Tryd.underlying32 rfl sizeQ) rfl ⟨?_, below_setRow HB.out (Nat.le_refl _) _⟩
      rfl
    | some p =>
      obtain ⟨nl, fs⟩ := p
      rw [hp] at hA HSP
      dsimp only at hA
      have hl := pspl_len hp
      have hfl : fs.length ≤ 101 := by omega
      have HFX := Lib.hid (show ∀ f ∈ fs, f.x.length ≤ 100 from fun f hf => by have := (hl.2.2 f hf).2; omega)
      obtain ⟨nb, hnb⟩ : ∃ nb : ByteArray, (⟨nl.toArray⟩ : ByteArray) = nb := ⟨_, rfl⟩
      have hnd : nl = nb.data.toList := by rw [← hnb]
      have HNB := Lib.hid hnb
      have HV := Lib.hid (fun W tb => pvalue_any nb W tb (by show nb.data.toList.length ≤ 100; rw [← hnd]; omega))
      have hv := valT_bd nl
      rw [← hnd] at HV
      obtain ⟨v, hvv⟩ : ∃ v, valT nl = v := ⟨_, rfl⟩
      rw [hvv] at hA HV hv
      have HA := Lib.hid hA
      clear hp h100 hnb hnd hvv hA hl hsl
      go_enter Tryd.func37, Tryd.ntmps37
      go_wp2_with fail
      refine (HSP.out _ HT1.out).mono ?_
      rintro r w1 ⟨hB, z, hr, hown⟩
      rw [HNB.out] at hr
      subst hr
      have HRES1 := Lib.hid ((hB.block w.heap.size (by simp)).trans HRES.out)
      have HB := Lib.hid (((Below.refl w.heap.size w).alloc (Nat.le_refl _) (.cells #[.int .i64 0, .int .i64 0, .int .i64 0, .int .i64 0, .int .i64 0, .int .i64 0] 32)).trans (hB.mono (by simp)))
      have HO := Lib.hid hown
      clear hB hown
      go_wp2_with fail
      refine (HV.out _ (tb.below HB.out)).mono ?_
      rintro r w2 ⟨rfl, hB⟩
      have HRES2 := Lib.hid ((hB.block w.heap.size (Array.getElem?_eq_some_iff.1 HRES1.out).1).trans HRES1.out)
      have HB2 := Lib.hid (HB.out.trans (hB.mono HB.out.size))
      have HO2 := Lib.hid (ownsRow_below HO.out hB)
      have hlt : w.heap.size < w2.heap.size := (Array.getElem?_eq_some_iff.1 HRES2.out).1
      obtain ⟨zg, za, zc, rfl, hrow⟩ := row_form HO2.out
      have HROW := Lib.hid hrow
      have HQ0 := Lib.hid (heap_alloc_new w2 (.cells #[.int .i64 v, .int .i64 0, .int .i64 0, .int .i64 0, .int .i64 0, .int .i64 0] 32))
      have HBQ := Lib.hid ((Below.refl w2.heap.size w2).alloc (Nat.le_refl _) (.cells #[.int .i64 v, .int .i64 0, .int .i64 0, .int .i64 0, .int .i64 0, .int .i64 0] 32))
      clear hB HRES HRES1 HB HO hrow HO2
      go_wp2_with fail
      go_loopg [31] fs.length (fun g i wr => ∃ (j : Nat) (q : Qt), j + g = fs.length ∧ i = .int .i64 j ∧ pfold fs ⟨v, .zero⟩ = pfold (fs.drop j) q ∧ q.m.in (8 * j) ∧ (-2147483648 ≤ q.n ∧ q.n ≤ 2147483648) ∧ Below w2.heap.size w2 wr ∧ wr.heap[w2.heap.size]? = some (.cells #[.int .i64 (q).n, .int .i64 (q).m.e, .int .i64 (q).m.d, .int .i64 (q).m.t, .int .i64 (q).m.a, .int .i64 (q).m.h] 32 (0, 0)))
      case atStart => exact ⟨0, ⟨v, .zero⟩, by omega, rfl, rfl, (show Dm.zero.in 0 by decide), hv, HBQ.out, HQ0.out⟩
      case round =>
        obtain ⟨j, q, hg, rfl, hfold, hin, hn, hb, hq⟩ := hrel
        have HG := Lib.hid hg
        have hj : j ≤ fs.length := by omega
        have HFOLD := Lib.hid hfold
        have HIN := Lib.hid hin
        have HBW := Lib.hid hb
        have HQ := Lib.hid hq
        have hszr : w2.heap.size < wr.heap.size := (Array.getElem?_eq_some_iff.1 hq).1
        clear hg hfold hin hb hq
        by_cases hlt2 : j < fs.length
        · have hi : (j : Int) < (fs.length : Int) := by omega
          have hi0 : (0 : Int) ≤ (j : Int) := by omega
          obtain ⟨rfl, hzg, hz⟩ := HROW.out (by omega)
          obtain ⟨f, hf⟩ : ∃ f, fs[j]? = some f := ⟨_, List.getElem?_eq_getElem hlt2⟩
          obtain ⟨h1, h2, h3⟩ := pfV_at fs j f hf
          have hc : ∀ i u, (pfV fs)[i]? = some u → wr.cell? ⟨zg, i, none⟩ = some u := fun i u hu => (HBW.out.cell (p := ⟨zg, i, none⟩) hzg).trans (hz i u hu)
          have hc0 := hc _ _ h1
          have hc1 := hc _ _ h2
          have hc2 := hc _ _ h3
          have HF := Lib.hid hf
          have HLT := Lib.hid hlt2
          obtain ⟨m, hm⟩ : ∃ m, pmeanT f = m := ⟨_, rfl⟩
          have hxl := HFX.out f (List.mem_of_getElem? hf)
          have HM := Lib.hid (fun W tb => pmean_any ⟨f.u.toArray⟩ ⟨f.x.toArray⟩ f.g W tb (by show f.x.toArray.size ≤ 100; simp; omega))
          have hpf : (⟨(⟨f.u.toArray⟩ : ByteArray).data.toList, (⟨f.x.toArray⟩ : ByteArray).data.toList, f.g⟩ : PF) = f := rfl
          rw [hpf, hm] at HM
          have hms := pmean_size f
          have HMI := Lib.hid (pmean_in f)
          have HST := Lib.hid (fun h0 => pfold_stop (q := q) hf h0)
          have HGO := Lib.hid (fun h0 => pfold_cons (q := q) hf h0)
          rw [hm] at hms HMI HST HGO
          obtain ⟨fu, hfu⟩ : ∃ fu : ByteArray, (⟨f.u.toArray⟩ : ByteArray) = fu := ⟨_, rfl⟩
          obtain ⟨fx, hfx⟩ : ∃ fx : ByteArray, (⟨f.x.toArray⟩ : ByteArray) = fx := ⟨_, rfl⟩
          rw [hfu] at hc0 HM
          rw [hfx] at hc1 HM
          clear hm hxl hpf hf hc hlt2 h1 h2 h3 hz hfu hfx
          obtain ⟨md, msz, me⟩ := m
          dsimp only at HM hms HMI HST HGO
          go_wp2_with fail
          have hB0 : Below w2.heap.size w2 (wr.alloc (.cells #[.string fu, .string fx, .bool f.g] 63)) := HBW.out.alloc HBW.out.size _
          refine (HM.out _ (tb.below (HB2.out.trans (hB0.mono HB2.out.size)))).mono ?_
          rintro r w3 ⟨rfl, hB⟩
          have hq3 : w3.heap[w2.heap.size]? = _ := (hB.block _ (by simp; omega)).trans ((Below.heap_alloc wr _ _ hszr).trans HQ.out)
          have hbox : ∀ o, w3.cell? ⟨w2.heap.size, o, none⟩ = (#[.int .i64 (q).n, .int .i64 (q).m.e, .int .i64 (q).m.d, .int .i64 (q).m.t, .int .i64 (q).m.a, .int .i64 (q).m.h] : Array Value)[o]? := fun o => cell_of_row w3 _ o _ _ _ hq3
          have HQ3 := Lib.hid hq3
          have hfr : ∀ o, w3.frozen? ⟨w2.heap.size, o, none⟩ = false := fun o => free_row hq3
          have hlt3 : w2.heap.size < w3.heap.size := (Array.getElem?_eq_some_iff.1 hq3).1
          have HB3 := Lib.hid (hB0.trans (hB.mono hB0.size))
          have HRES3 := Lib.hid ((HB3.out.block w.heap.size hlt).trans HRES2.out)
          clear hB hB0 hq3 hc0 hc1 hc2
          by_cases hme : me = 0
          · subst hme
            have HCL := Lib.hid (fun W => pclamped_any (q.n * msz) W)
            have hmul : -7730941132800 ≤ q.n * msz ∧ q.n * msz ≤ 7730941132800 := by
              have h1 : q.n * msz ≤ 2147483648 * msz := Int.mul_le_mul_of_nonneg_right hn.2 hms.1
              have h2 : (-2147483648) * msz ≤ q.n * msz := Int.mul_le_mul_of_nonneg_right hn.1 hms.1
              omega
            have HSC := Lib.hid (show min (max (q.n * msz) (-2147483648)) 2147483648 = scaled q.n msz by unfold scaled; omega)
            have HSB := Lib.hid (scaled_bd q.n msz)
            obtain ⟨sn, hsn⟩ : ∃ sn, scaled q.n msz = sn := ⟨_, rfl⟩
            rw [hsn] at HSC HSB HGO
            rw [HSC.out] at HCL
            clear hsn
            obtain ⟨zm, hzm⟩ : ∃ zm, q.n * msz = zm := ⟨_, rfl⟩
            rw [hzm] at HCL hmul
            have HTM := Lib.hid (fun W => ptimes_any q.m md W (in_mono HIN.out (by omega)) (in_mono HMI.out (by omega)))
            go_wp2_with fail
            refine (HCL.out _).mono ?_
            rintro r w4 ⟨rfl, rfl⟩
            go_wp2_with fail
            have hs0 := set1 (i := 0) (.int .i64 sn) HQ3.out
            obtain ⟨wy, hwy⟩ : ∃ wy, w3.setCell ⟨w2.heap.size, 0, none⟩ (.int .i64 sn) = wy := ⟨_, rfl⟩
            rw [hwy] at hs0 ⊢
            have hq5 : wy.heap[w2.heap.size]? = some (.cells #[.int .i64 sn, .int .i64 q.m.e, .int .i64 q.m.d, .int .i64 q.m.t, .int .i64 q.m.a, .int .i64 q.m.h] 32 (0, 0)) := hs0.1
            have hlt5 : w2.heap.size < wy.heap.size := (Array.getElem?_eq_some_iff.1 hq5).1
            have hb5 : Below w2.heap.size w2 wy := hs0.2 _ _ HB3.out (Nat.le_refl _)
            clear hs0 hwy hbox hfr
            refine (HTM.out _).mono ?_
            rintro r w5 ⟨rfl, hB⟩
            have hq6 : w5.heap[w2.heap.size]? = _ := (hB.block _ (by simp; omega)).trans ((Below.heap_alloc wy _ _ hlt5).trans hq5)
            have hlt6 : w2.heap.size < w5.heap.size := (Array.getElem?_eq_some_iff.1 hq6).1
            have hfr6 : ∀ o, w5.frozen? ⟨w2.heap.size, o, none⟩ = false := fun o => free_row hq6
            have hbox6 : ∀ o, w5.cell? ⟨w2.heap.size, o, none⟩ = (#[.int .i64 sn, .int .i64 q.m.e, .int .i64 q.m.d, .int .i64 q.m.t, .int .i64 q.m.a, .int .i64 q.m.h] : Array Value)[o]? := fun o => cell_of_row w5 _ o _ _ _ hq6
            have HS5 := Lib.hid (set5 (.int .i64 (q.m.times md).e) (.int .i64 (q.m.times md).d) (.int .i64 (q.m.times md).t) (.int .i64 (q.m.times md).a) (.int .i64 (q.m.times md).h) hq6)
            have HB6 := Lib.hid ((hb5.alloc hb5.size (.cells #[.int .i64 md.e, .int .i64 md.d, .int .i64 md.t, .int .i64 md.a, .int .i64 md.h] 23)).trans (hB.mono (by simp; omega)))
            clear hB hq6 hq5 hb5
            go_wp2_with fail
            go_roundg (gk - 1)
            case measure => have := HG.out; have := HLT.out; omega
            case rel =>
              exact ⟨j + 1, ⟨sn, q.m.times md⟩, by have := HG.out; have := HLT.out; omega, by go_num, HFOLD.out.trans (HGO.out trivial), times_in HIN.out HMI.out (by omega), HSB.out, HS5.out.2 _ _ HB6.out (Nat.le_refl _), HS5.out.1⟩
          · have hme0 : (me == 0) = false := by simpa using hme
            have HST2 := Lib.hid (HST.out hme)
            have hlt0 : w.heap.size < w3.heap.size := by omega
            have HRES4 := Lib.hid ((Below.heap_alloc w3 (.cells #[.int .i64 md.e, .int .i64 md.d, .int .i64 md.t, .int .i64 md.a, .int .i64 md.h] 23) w.heap.size hlt0).trans HRES3.out)
            have HB4 := Lib.hid ((HB2.out.trans (HB3.out.mono HB2.out.size)).alloc (by omega) (.cells #[.int .i64 md.e, .int .i64 md.d, .int .i64 md.t, .int .i64 md.a, .int .i64 md.h] 23))
            clear HST HGO
            go_wp2_with (refine wpList_store_row rfl 32 _ _ rfl (w.heap.size) #[.int .i64 0, .int .i64 0, .int .i64 0, .int .i64 0, .int .i64 0, .int .i64 0] rfl rfl 32 _ HRES4.out sizeQ rfl (one6 _ _ _ _ _ _) ?_)
            refine bodyPost_ret (v := .tuple #[.agg #[.int .i64 0, .int .i64 0, .int .i64 0, .int .i64 0, .int .i64 0, .int .i64 0], .int .i64 (me)]) (results_row_tmp (ty := 32) rfl _ _ (w.heap.size) 32 #[.int .i64 0, .int .i64 0, .int .i64 0, .int .i64 0, .int .i64 0, .int .i64 0] (0, 0) _ _ rfl rfl (setRow_heap _ _ _ _ _ _ HRES4.out) Tryd.underlying32 rfl sizeQ) rfl ⟨?_, below_setRow HB4.out (Nat.le_refl _) _⟩
            rw [← HA.out, HFOLD.out, HST2.out]
            rfl
        · have hi : ¬ (j : Int) < (fs.length : Int) := by omega
          have hjl : j = fs.length := by omega
          subst hjl
          have HFIN := Lib.hid (show A = chk q by
            rw [← HA.out, HFOLD.out, List.drop_length]
            rfl)
          have HCK := Lib.hid (fun W => pchecked_any q W)
          have hbox : ∀ o, wr.cell? ⟨w2.heap.size, o, none⟩ = (#[.int .i64 (q).n, .int .i64 (q).m.e, .int .i64 (q).m.d, .int .i64 (q).m.t, .int .i64 (q).m.a, .int .i64 (q).m.h] : Array Value)[o]? := fun o => cell_of_row wr _ o _ _ _ HQ.out
          go_wp2_with fail
          refine (HCK.out _).mono ?_
          rintro r w3 ⟨rfl, hB⟩
          have HB3 := Lib.hid (HB2.out.trans ((HBW.out.trans (hB.mono HBW.out.size)).mono HB2.out.size))
          have HRES3 := Lib.hid ((hB.block w.heap.size (by omega)).trans ((HBW.out.block w.heap.size hlt).trans HRES2.out))
          rw [← HFIN.out]
          clear hB hbox
          go_wp2_with (refine wpList_store_row rfl 32 _ _ rfl (w.heap.size) #[.int .i64 (A.1).n, .int .i64 (A.1).m.e, .int .i64 (A.1).m.d, .int .i64 (A.1).m.t, .int .i64 (A.1).m.a, .int .i64 (A.1).m.h] rfl rfl 32 _ HRES3.out sizeQ rfl (one6 _ _ _ _ _ _) ?_)
          refine bodyPost_ret (v := .tuple #[.agg #[.int .i64 (A.1).n, .int .i64 (A.1).m.e, .int .i64 (A.1).m.d, .int .i64 (A.1).m.t, .int .i64 (A.1).m.a, .int .i64 (A.1).m.h], .int .i64 (A.2)]) (results_row_tmp (ty := 32) rfl _ _ (w.heap.size) 32 #[.int .i64 (A.1).n, .int .i64 (A.1).m.e, .int .i64 (A.1).m.d, .int .i64 (A.1).m.t, .int .i64 (A.1).m.a, .int .i64 (A.1).m.h] (0, 0) _ _ rfl rfl (setRow_heap _ _ _ _ _ _ HRES3.out) Tryd.underlying32 rfl sizeQ) rfl ⟨?_, below_setRow HB3.out (Nat.le_refl _) _⟩
          rfl
end U
end Go.Proofs.YthcehhonahgfmaaDoor
