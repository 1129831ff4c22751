/-
  The specification's relax.
-/
import Derived.Test.YtojflmejkigdiaaQStp
namespace Go.Proofs.Ytojflmejkigdiaa
open Go.RowKit Go.Shelf
namespace Q
open H
set_option linter.unusedVariables false
set_option linter.unusedSimpArgs false
set_option maxRecDepth 100000
/-- A block of numbers. -/
def RI (W : World) (g : Nat) (zs : List Int) : Prop := W.heap[g]? = some (.cells (zs.map (Value.int .i64)).toArray 3 (0, 0))
theorem RI.cell {W : World} {g : Nat} {zs : List Int} (h : RI W g zs) {i : Nat} {z : Int} (hz : zs[i]? = some z) : W.cell? ⟨g, i, none⟩ = some (.int .i64 z) := by
  unfold RI at h
  simp [World.cell?, h, hz]
theorem RI.fz {W : World} {g : Nat} {zs : List Int} (h : RI W g zs) (i : Nat) : W.frozen? ⟨g, i, none⟩ = false := by
  unfold RI at h
  simp [World.frozen?, h]
theorem RI.set {W : World} {g : Nat} {zs : List Int} (h : RI W g zs) (i : Nat) (z : Int) : RI (W.setCell ⟨g, i, none⟩ (.int .i64 z)) g (zs.set i z) := by
  have h2 := hset (i := i) (.int .i64 z) h
  unfold RI
  rw [h2]
  simp
theorem RI.keep {W V : World} {g : Nat} {zs : List Int} (h : RI W g zs) (hB : Below W.heap.size W V) : RI V g zs := heap_keep hB h
theorem RI.lt {W : World} {g : Nat} {zs : List Int} (h : RI W g zs) : g < W.heap.size := hlt_of h
theorem mz_get {l : List Int} (hl : Aok l) {i : Nat} (hi : i < 21) : (l.map mz)[i]? = some (mz (gt l (i : Int))) := by
  rw [List.getElem?_map, gt_nat, List.getElem?_eq_getElem (by have := hl.len; omega)]
  rfl
theorem rlx_ok {size : Int} {l : List Int} (hl : Aok l) {x : Wn} (hx : fm x = true) {f t : Nat} (ht : t < 21) (hf : f < 21) (hs : 1 ≤ size) : Aok (rlx size l x f t) := by
  unfold rlx
  split
  · split
    · exact hl
    · rename_i v hv
      split
      · rename_i hlt
        refine ⟨by rw [List.length_set, hl.len], fun i hi => ?_⟩
        rw [gt_set (by have := hl.len; omega)]
        split
        · unfold hopO at hv
          split at hv
          · rename_i hc
            have e := Option.some.inj hv
            have hlk : lk x = true := by have h := hc.1; unfold via at h; exact (of_decide_eq_true h).1
            have lok := (lkOk_ok (show lkOk x = true from decide_eq_true ⟨hlk, hx⟩)).1
            have h1 := dur_bd lok hs
            have h2 := lok.un
            have h3 := lok.fr
            have h4 : x.fr ≤ beg x (gt l (f : Int)) := by unfold beg; omega
            omega
          · cases hv
        · exact hl.bd i hi
      · exact hl
  · exact hl
theorem hopO_bd {x : Wn} (hx : fm x = true) {f t k size v : Int} (hs : 1 ≤ size) (hv : hopO x f t k size = some v) : 0 ≤ v ∧ v ≤ 1000000 := by
  unfold hopO at hv
  split at hv
  · rename_i hc
    have e := Option.some.inj hv
    have hlk : lk x = true := by have h := hc.1; unfold via at h; exact (of_decide_eq_true h).1
    have lok := (lkOk_ok (show lkOk x = true from decide_eq_true ⟨hlk, hx⟩)).1
    have h1 := dur_bd lok hs
    have h2 := lok.un
    have h3 := lok.fr
    have h4 : x.fr ≤ beg x k := by unfold beg; omega
    omega
  · cases hv
set_option maxHeartbeats 4000000 in
theorem rrelax_any (x : Wn) (l : List Int) (g f t : Nat) (size : Int) (w : World) (hl : Aok l) (hf : f < 21) (ht : t < 21) (hx : fm x = true) (hs : 1 ≤ size ∧ size ≤ 100000) (h : RI w g (l.map mz)) :
    Calls Try.prog 70 #[.slice (some ⟨g, 0, none⟩) 21 21, x.v, .int .i64 (f : Int), .int .i64 (t : Int), .int .i64 size] w fun e w' => e = .returned (.slice (some ⟨g, 0, none⟩) 21 21) ∧ RI w' g ((rlx size l x f t).map mz) ∧ Below g w w' := by
  obtain ⟨ad, had⟩ : ∃ ad : Addr, ad = ⟨g, 0, none⟩ := ⟨_, rfl⟩
  have ef : ad.add f = ⟨g, f, none⟩ := by rw [had, ad_add]
  have et : ad.add t = ⟨g, t, none⟩ := by rw [had, ad_add]
  have hgl := h.lt
  have hgb : Below g w (w.alloc (.cells (wcells x) 31)) := (Below.refl g w).alloc (by omega) _
  have N0 := (Wb.new w x).bx
  have R0 : RI (w.alloc (.cells (wcells x) 31)) g (l.map mz) := hup _ h
  rw [← had]
  clear had
  have hfi : (f : Int) < 21 := by omega
  have hti : (t : Int) < 21 := by omega
  have cf := R0.cell (mz_get hl hf)
  have HGB := Lib.hid hgb
  have HR0 := Lib.hid R0
  by_cases h1 : gt l (f : Int) < 1000001
  · have hv0 := (hl.bd f hf).1
    have hR0 : hopO x f t (gt l (f : Int)) size = none → rlx size l x f t = l := fun h => by unfold rlx; rw [if_pos h1, h]
    have hR1 : ∀ z, hopO x f t (gt l (f : Int)) size = some z → z < gt l (t : Int) → rlx size l x f t = l.set t z := fun z h h2 => by unfold rlx; rw [if_pos h1, h]; dsimp only; rw [if_pos h2]
    have hR2 : ∀ z, hopO x f t (gt l (f : Int)) size = some z → ¬ z < gt l (t : Int) → rlx size l x f t = l := fun z h h2 => by unfold rlx; rw [if_pos h1, h]; dsimp only; rw [if_neg h2]
    have HRA := Lib.hid hR0
    have HRB := Lib.hid hR1
    have HRC := Lib.hid hR2
    have hmf : mz (gt l (f : Int)) = gt l (f : Int) := by unfold mz; rw [if_neg (by omega)]
    rw [hmf] at cf
    have HH : Hid (∀ W, Calls Try.prog 57 #[x.v, .int .i64 f, .int .i64 t, .int .i64 (gt l (f : Int)), .int .i64 size] W fun e w' => (∃ v ok, e = .returned (.tuple #[.int .i64 v, .bool ok]) ∧ (ok = true → hopO x f t (gt l (f : Int)) size = some v) ∧ (ok = false → hopO x f t (gt l (f : Int)) size = none)) ∧ Below W.heap.size W w') := Lib.hid (fun W => hop_x x f t _ size W hx (by omega) hs)
    have HBD := Lib.hid (fun v (hv : hopO x f t (gt l (f : Int)) size = some v) => hopO_bd hx hs.1 hv)
    have HTT := Lib.hid (And.intro (mz_get hl ht) (hl.bd t ht))
    have HTL := Lib.hid (show t < l.length by have := hl.len; omega)
    have hvn : ¬ gt l (f : Int) < 0 := by omega
    clear hR0 hR1 hR2 hmf hl hs R0 hgb h h1
    generalize hopO x f t (gt l (f : Int)) size = ho at *
    generalize gt l (f : Int) = v at *
    generalize gt l (t : Int) = u at *
    generalize rlx size l x f t = rl at *
    go_enter Try.func70, Try.ntmps70
    go_upto_region 3 with fail
    have M0 := N0.call (below_drew _)
    have m0 := M0.c0
    have m1 := M0.c1
    have m2 := M0.c2
    have m3 := M0.c3
    have m4 := M0.c4
    have m5 := M0.c5
    have df := cell_drw cf
    go_region_held3 (fun W => W.cell? ⟨w.heap.size, 0, none⟩ = some (.int .i64 x.kind) ∧ W.cell? ⟨w.heap.size, 1, none⟩ = some (.int .i64 x.a) ∧ W.cell? ⟨w.heap.size, 2, none⟩ = some (.int .i64 x.b) ∧ W.cell? ⟨w.heap.size, 3, none⟩ = some (.int .i64 x.fr) ∧ W.cell? ⟨w.heap.size, 4, none⟩ = some (.int .i64 x.un) ∧ W.cell? ⟨w.heap.size, 5, none⟩ = some (.int .i64 x.rate) ∧ W.cell? ⟨g, f, none⟩ = some (.int .i64 v)) (with_reducible (first | exact ⟨m0, m1, m2, m3, m4, m5, df⟩ | exact ⟨below_cell hB3 m0, below_cell hB3 m1, below_cell hB3 m2, below_cell hB3 m3, below_cell hB3 m4, below_cell hB3 m5, below_cell hB3 df⟩))
      ((go_at_call 57; with_reducible refine (HH.out _).mono ?_; rintro e w3 ⟨⟨z, ok, rfl, hv1, hv2⟩, hB3⟩))
    have BW3 : Hid (Below g w w3) := Lib.hid (HGB.out.trans ((bt (below_drew _) hB3).mono (by simp; omega)))
    have R3 := HR0.out.keep (bt (below_drew _) hB3)
    have HR3 := Lib.hid R3
    clear m0 m1 m2 m3 m4 m5 M0 N0 df cf
    cases ok with
    | false =>
      have he := hv2 rfl
      have HE : Hid (rl = l) := Lib.hid (HRA.out he)
      clear hv1 hv2 he hB3 R3
      go_wp2_with fail
      go_ret
      exact ⟨rfl, by rw [HE.out]; exact HR3.out, BW3.out⟩
    | true =>
      have he := hv1 rfl
      have hz := HBD.out z he
      have HZ := Lib.hid he
      have ct := R3.cell HTT.out.1
      have hfz := R3.fz t
      have hmz : mz z = z := by unfold mz; rw [if_neg (by omega)]
      have HMZ := Lib.hid hmz
      have hu := HTT.out.2
      clear hv1 hv2 he hB3 R3 hmz
      by_cases hu1 : u = 1000001
      · rw [hu1, show mz 1000001 = -1 from rfl] at ct
        have HE : Hid (rl = l.set t z) := Lib.hid (HRB.out z HZ.out (by omega))
        clear hu hu1 hz
        go_wp2_with fail
        go_ret
        refine ⟨rfl, ?_, BW3.out.setCell (p := ⟨g, t, none⟩) (Nat.le_refl g) _⟩
        have h9 := HR3.out.set t z
        rw [HE.out, List.map_set, HMZ.out]
        exact h9
      · have hmu : mz u = u := by unfold mz; rw [if_neg hu1]
        rw [hmu] at ct
        have hu0 : ¬ u < 0 := by omega
        by_cases hzu : z < u
        · have HE : Hid (rl = l.set t z) := Lib.hid (HRB.out z HZ.out (by omega))
          clear hu hu1 hz hmu
          go_wp2_with fail
          go_ret
          refine ⟨rfl, ?_, BW3.out.setCell (p := ⟨g, t, none⟩) (Nat.le_refl g) _⟩
          have h9 := HR3.out.set t z
          rw [HE.out, List.map_set, HMZ.out]
          exact h9
        · have HE : Hid (rl = l) := Lib.hid (HRC.out z HZ.out (by omega))
          clear hu hu1 hz hmu
          go_wp2_with fail
          go_ret
          exact ⟨rfl, by rw [HE.out]; exact HR3.out, BW3.out⟩
  · have hv : gt l (f : Int) = 1000001 := by have := (hl.bd f hf).2; omega
    have hrl : rlx size l x f t = l := by unfold rlx; rw [if_neg h1]
    rw [hv, show mz 1000001 = -1 from rfl] at cf
    have HRL := Lib.hid hrl
    clear hl hs R0 hgb h h1 hv hrl
    generalize rlx size l x f t = rl at *
    go_enter Try.func70, Try.ntmps70
    go_wp2_with fail
    go_ret
    exact ⟨rfl, by rw [HRL.out]; exact HR0.out, HGB.out⟩
end Q
end Go.Proofs.Ytojflmejkigdiaa
