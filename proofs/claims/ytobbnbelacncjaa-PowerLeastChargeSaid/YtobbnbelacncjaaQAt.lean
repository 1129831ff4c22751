/-
  The landed At and Next.
-/
import Derived.Test.YtobbnbelacncjaaQFst
namespace Go.Proofs.Ytobbnbelacncjaa
open Go.RowKit Go.Shelf
namespace Q
open H
set_option linter.unusedVariables false
set_option linter.unusedSimpArgs false
set_option maxRecDepth 100000
theorem rds_more {w : World} {B B' : Nat} {A : Option Addr} {xs : List Wn} (h : RdsWn w B A xs) (hB : B ≤ B') : RdsWn w B' A xs := fun j x hx => by
  obtain ⟨ad, e, ha, hr⟩ := h j x hx
  exact ⟨ad, e, by omega, hr⟩
def pAt (k a b t : Int) (x : Wn) : Bool := hk x k a b && op x t
def pNext (k a b t : Int) (x : Wn) : Bool := hk x k a b && decide (t < x.un)
def pTicks (k a b : Int) (x : Wn) : Bool := hk x k a b
def pPlaces (a t : Int) (x : Wn) : Bool := decide (x.kind = 4 ∧ x.a = a) && op x t
theorem acc_At (F : Nat → Prop) (T : List Wn) (k a b t : Int) (bk ba bb bt' : Nat) (w : World) (nf : ∀ b, ¬ F b) (hk' : Ib w bk k) (ha : Ib w ba a) (hb : Ib w bb b) (ht : Ib w bt' t) : Acc F w T (pAt k a b t) 64 #[bp bk, bp ba, bp bb, bp bt'] :=
  fun W hW x _ => cAt_any x k a b t bk ba bb bt' W (hW.ib hk' (nf _)) (hW.ib ha (nf _)) (hW.ib hb (nf _)) (hW.ib ht (nf _))
theorem acc_Ticks (F : Nat → Prop) (T : List Wn) (k a b : Int) (bk ba bb : Nat) (w : World) (nk : ¬ F bk) (na : ¬ F ba) (nb : ¬ F bb) (hk' : Ib w bk k) (ha : Ib w ba a) (hb : Ib w bb b) : Acc F w T (pTicks k a b) 47 #[bp bk, bp ba, bp bb] :=
  fun W hW x _ => cTicks_any x k a b bk ba bb W (hW.ib hk' nk) (hW.ib ha na) (hW.ib hb nb)
theorem ib_new (W : World) (n : Int) (T : TypeId) : Ib (W.alloc (.cells #[.int .i64 n] T)) W.heap.size n := cell_top W _ _ _
set_option maxHeartbeats 4000000 in
theorem pAt_any (T : List Wn) (A : Option Addr) (cap B : Nat) (k a b t : Int) (w : World) (hB : B ≤ w.heap.size) (hlen : T.length ≤ 140737488351232) (hR : RdsWn w B A T) :
    Calls Try.prog 45 #[.slice A T.length cap, .int .i64 k, .int .i64 a, .int .i64 b, .int .i64 t] w fun e w' => e = .returned (fstV T (pAt k a b t)) ∧ Below w.heap.size w w' := by
  obtain ⟨W5, hW5⟩ : ∃ W5, W5 = ((((w.alloc (.cells #[.int .i64 k] 3)).alloc (.cells #[.int .i64 a] 3)).alloc (.cells #[.int .i64 b] 3)).alloc (.cells #[.int .i64 t] 3)).alloc (.cells (wcells zw) 77) := ⟨_, rfl⟩
  have i1 : Ib W5 w.heap.size k := by rw [hW5]; exact ((((ib_new w k _).call (bel1 _ _)).call (bel1 _ _)).call (bel1 _ _)).call (bel1 _ _)
  have i2 : Ib W5 (w.heap.size + 1) a := by rw [hW5]; have h := ((((ib_new (w.alloc (.cells #[.int .i64 k] 3)) a 3).call (bel1 _ (.cells #[.int .i64 b] 3))).call (bel1 _ (.cells #[.int .i64 t] 3))).call (bel1 _ (.cells (wcells zw) 77))); simpa using h
  have i3 : Ib W5 (w.heap.size + 1 + 1) b := by rw [hW5]; have h := (((ib_new ((w.alloc (.cells #[.int .i64 k] 3)).alloc (.cells #[.int .i64 a] 3)) b 3).call (bel1 _ (.cells #[.int .i64 t] 3))).call (bel1 _ (.cells (wcells zw) 77))); simpa using h
  have i4 : Ib W5 (w.heap.size + 1 + 1 + 1) t := by rw [hW5]; have h := (ib_new (((w.alloc (.cells #[.int .i64 k] 3)).alloc (.cells #[.int .i64 a] 3)).alloc (.cells #[.int .i64 b] 3)) t 3).call (bel1 _ (.cells (wcells zw) 77)); simpa using h
  have z1 : Wb W5 (w.heap.size + 1 + 1 + 1 + 1) zw := by rw [hW5]; have h := Wb.new ((((w.alloc (.cells #[.int .i64 k] 3)).alloc (.cells #[.int .i64 a] 3)).alloc (.cells #[.int .i64 b] 3)).alloc (.cells #[.int .i64 t] 3)) zw; simpa using h
  have bel : Below w.heap.size w W5 := by rw [hW5]; exact bt (bt (bel2 w _ _) (bel2 _ _ _)) (bel1 _ _)
  have hsz : W5.heap.size = w.heap.size + 1 + 1 + 1 + 1 + 1 := by rw [hW5]; simp
  have HWH : Hid (∀ W, Calls Try.prog 46 #[.slice A T.length cap, .func (.func 64) #[] #[bp w.heap.size, bp (w.heap.size + 1), bp (w.heap.size + 1 + 1), bp (w.heap.size + 1 + 1 + 1)]] W fun e w' => e = .returned (.func (.func 66) #[] #[bp W.heap.size, bp (W.heap.size + 1)]) ∧ Sb w' W.heap.size (.slice A T.length cap) ∧ Sb w' (W.heap.size + 1) (.func (.func 64) #[] #[bp w.heap.size, bp (w.heap.size + 1), bp (w.heap.size + 1 + 1), bp (w.heap.size + 1 + 1 + 1)]) ∧ Below W.heap.size W w' ∧ w'.heap.size = W.heap.size + 2) := Lib.hid (fun W => where_any A T.length cap _ _ W)
  have HFS : Hid (∀ W, Below W5.heap.size W5 W → ∀ Bt Ba, Sb W Bt (.slice A T.length cap) → Sb W Ba (.func (.func 64) #[] #[bp w.heap.size, bp (w.heap.size + 1), bp (w.heap.size + 1 + 1), bp (w.heap.size + 1 + 1 + 1)]) → Calls Try.prog 63 #[.func (.func 66) #[] #[bp Bt, bp Ba]] W fun e w' => e = .returned (fstV T (pAt k a b t)) ∧ Below W.heap.size W w') := Lib.hid (fun W hW Bt Ba hT hF =>
    first_any Bt Ba A cap T (pAt k a b t) 64 _ W (enters_of Try.func64 (by kernel_rfl) rfl) hlen (acc_At _ T k a b t _ _ _ _ W (fun _ => id) (i1.call hW) (i2.call hW) (i3.call hW) (i4.call hW)) hT hF (rds_more (hR.below ((bel.mono hB).trans (hW.mono (by omega)))) (by have := hW.size; have := bel.size; omega)))
  have hval : fstV T (pAt k a b t) = .tuple #[((T.find? (pAt k a b t)).getD zw).v, .bool (T.find? (pAt k a b t)).isSome] := rfl
  rw [hval] at HFS ⊢
  clear hval hR hlen i1 i2 i3 i4
  generalize (T.find? (pAt k a b t)).getD zw = y at *
  generalize (T.find? (pAt k a b t)).isSome = r at *
  generalize T.length = len at *
  have HBEL := Lib.hid bel
  have HSZ := Lib.hid hsz
  have HZ := Lib.hid z1
  have HW5 := Lib.hid hW5
  clear bel hsz z1 hW5 hB
  go_enter Try.func45, Try.ntmps45
  go_wp2_with (first
    | (go_at_call 46; change Calls _ _ _ (((((w.alloc (.cells #[.int .i64 k] 3)).alloc (.cells #[.int .i64 a] 3)).alloc (.cells #[.int .i64 b] 3)).alloc (.cells #[.int .i64 t] 3)).alloc (.cells (wcells zw) 77)) _; rw [← HW5.out]; refine (HWH.out W5).mono ?_; rintro e w6 ⟨rfl, s1, s2, hB6, _⟩; have HC := Lib.hid (HFS.out w6 hB6 _ _ s1 s2))
    | (go_at_call 63; refine HC.out.mono ?_; rintro e w7 ⟨rfl, hB7⟩; have N7 := heap_keep hB7 (heap_keep hB6 HZ.out); have n0 := (Wb.bx N7).c0; have n1 := (Wb.bx N7).c1; have n2 := (Wb.bx N7).c2; have n3 := (Wb.bx N7).c3; have n4 := (Wb.bx N7).c4; have n5 := (Wb.bx N7).c5; obtain ⟨f0, f1, f2, f3, f4, f5⟩ := Wb.fz N7))
  obtain ⟨V, hV⟩ : ∃ V, V = put6 w7 (w.heap.size + 1 + 1 + 1 + 1) y := ⟨_, rfl⟩
  have hN : Wb V (w.heap.size + 1 + 1 + 1 + 1) y := by rw [hV]; exact Wb.put y N7
  have hBV : Below w.heap.size w V := by rw [hV]; exact (bt HBEL.out (bt hB6 hB7)).trans (put6_below y (by omega))
  change bodyPost _ _ _ _ _ (put6 w7 (w.heap.size + 1 + 1 + 1 + 1) y)
  rw [← hV]
  have e0 := hN.bx.c0
  have e1 := hN.bx.c1
  have e2 := hN.bx.c2
  have e3 := hN.bx.c3
  have e4 := hN.bx.c4
  have e5 := hN.bx.c5
  clear hN hV
  refine bodyPost_ret (v := .tuple #[y.v, .bool r]) (by simp [results, Try.results45, go_sem, e0, e1, e2, e3, e4, e5]) rfl ⟨rfl, hBV⟩
end Q
end Go.Proofs.Ytobbnbelacncjaa
