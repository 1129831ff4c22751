/-
  The landed before.
-/
import Derived.Test.YtojflmejkigdiaaQEar
namespace Go.Proofs.Ytojflmejkigdiaa
open Go.RowKit Go.Shelf
attribute [local go_sem] Oper.semAt_some
namespace Q
open H
set_option linter.unusedVariables false
set_option linter.unusedSimpArgs false
set_option maxRecDepth 100000
/-- The least node so far from which a hop ends at a node as early as possible. -/
def bstep (E : List Int) (nd size : Int) (m : Int) (h : Hp) : Int := if h.dst = nd ∧ hend' h.w (gt E h.src) size = gt E nd then min m h.src else m
def befL (E : List Int) (nd size : Int) (H : List Hp) : Int := H.foldl (bstep E nd size) 21
def bfp (E : List Int) (nd size : Int) (pre : List HpO) : Int := befL E nd size (pre.map (·.1))
theorem bfp_snoc (E : List Int) (nd size : Int) (pre : List HpO) (h : HpO) : bfp E nd size (pre ++ [h]) = bstep E nd size (bfp E nd size pre) h.1 := by simp [bfp, befL]
/-- What before holds. -/
structure Bh (w : World) (E : List Int) (j : Nat) (size : Int) (W : World) : Prop where
  at' : Ab W w.heap.size E
  nd : Boxed W (w.heap.size + 1) 3 (.int .i64 (j : Int))
  sz : Boxed W (w.heap.size + 1 + 1) 3 (.int .i64 size)
  bel : Below w.heap.size w W
  lt : w.heap.size + 4 ≤ W.heap.size
theorem Bh.call {w W V : World} {E : List Int} {j : Nat} {size : Int} (h : Bh w E j size W) (hB : Below W.heap.size W V) : Bh w E j size V := ⟨heap_keep hB h.at', heap_keep hB h.nd, heap_keep hB h.sz, bt h.bel hB, Nat.le_trans h.lt hB.size⟩
theorem Bh.oth {w W : World} {E : List Int} {j : Nat} {size : Int} (h : Bh w E j size W) (v : Value) : Bh w E j size (W.setCell ⟨w.heap.size + 1 + 1 + 1, 0, none⟩ v) :=
  ⟨hoth _ h.at' (by omega), hoth _ h.nd (by omega), hoth _ h.sz (by omega), h.bel.setCell (p := ⟨w.heap.size + 1 + 1 + 1, 0, none⟩) (by simp; omega) _, Nat.le_trans h.lt (KeepsOthers.setCell _ _ _).size⟩
theorem Bh.own {β : Type} {w : World} {E : List Int} {j : Nat} {size : Int} {B : Nat} (hB : w.heap.size ≤ B) : OwnFrom B (fun (_ : β) W => Bh w E j size W) := fun s W W' row h hg hr =>
  ⟨heap_own h.at' rfl hg (fun r e => (hr r e).2), heap_own h.nd rfl hg (fun r e => (hr r e).2), heap_own h.sz rfl hg (fun r e => (hr r e).2), ownFrom_below (β := Unit) (Nat.le_refl _) hB () W W' row h.bel hg hr, Nat.le_trans h.lt hg.size⟩
set_option maxHeartbeats 8000000 in
theorem pbef_any (T : List Wn) (A : Option Addr) (cap B : Nat) (E : List Int) (j : Nat) (size : Int) (w : World) (hB : B ≤ w.heap.size) (hlen : T.length ≤ 1000) (hE : Aok E) (hj : j < 21) (hs : 1 ≤ size ∧ size ≤ 100000) (hR : RdsWn w B A T) :
    Calls Try.prog 67 #[.slice A T.length cap, av E, .int .i64 (j : Int), .int .i64 size] w fun e w' => e = .returned (.int .i64 (befL E j size (hl T))) ∧ Below w.heap.size w w' := by
  have HSEQ : Hid (∀ (W : World) Bt, Below w.heap.size w W → w.heap.size + 4 ≤ W.heap.size → Sb W Bt (.slice A T.length cap) → w.heap.size + 4 ≤ Bt → SeqO Fence.wide 4 Try.prog 85 #[bp Bt] (fun h : HpO => #[h.1.v]) (Kc (fun x => x = w.heap.size + 1 + 1 + 1)) (fun ys => ys = hopsL T) (fun _ => True) (2 * T.length) W) := Lib.hid (fun W Bt hW hsz hsb hbt =>
    hops_seq 4 (by omega) Bt A cap B T _ W hlen hsb (by omega) (hR.below (hW.mono hB)) (by intro x hx; omega) (by intro x hx; omega))
  have HHOP := Lib.hid (fun W => hops_any A T.length cap W)
  have HV : Hid (bfp E j size (hopsL T) = befL E j size (hl T)) := Lib.hid rfl
  have HSB := Lib.hid hs
  have HEE := Lib.hid hE
  generalize befL E j size (hl T) = res at *
  clear hR hB
  generalize hl' : T.length = len at *
  clear hl'
  obtain ⟨W2, hW2⟩ : ∃ W2, W2 = (((w.alloc (.cells (E.map (Value.int .i64)).toArray 64)).alloc (.cells #[.int .i64 (j : Int)] 3)).alloc (.cells #[.int .i64 size] 3)).alloc (.cells #[.int .i64 21] 3) := ⟨_, rfl⟩
  have E0 : Bh w E j size W2 := by
    rw [hW2]
    refine ⟨?_, ?_, ?_, bt (bel2 w _ _) (bel2 _ _ _), by simp⟩
    · exact hup _ (hup _ (hup _ (heap_top w _)))
    · have h := hup (.cells #[.int .i64 21] 3) (hup (.cells #[.int .i64 size] 3) (heap_top (w.alloc (.cells (E.map (Value.int .i64)).toArray 64)) (.cells #[.int .i64 (j : Int)] 3))); rw [World.size_alloc] at h; exact h
    · have h := hup (.cells #[.int .i64 21] 3) (heap_top ((w.alloc (.cells (E.map (Value.int .i64)).toArray 64)).alloc (.cells #[.int .i64 (j : Int)] 3)) (.cells #[.int .i64 size] 3)); rw [World.size_alloc, World.size_alloc] at h; exact h
  have X0 : Boxed W2 (w.heap.size + 1 + 1 + 1) 3 (.int .i64 21) := by rw [hW2]; have h := Boxed.new (((w.alloc (.cells (E.map (Value.int .i64)).toArray 64)).alloc (.cells #[.int .i64 (j : Int)] 3)).alloc (.cells #[.int .i64 size] 3)) 3 (.int .i64 21); simpa using h
  have HW2 := Lib.hid hW2
  clear hW2
  refine (callsIn_wide (n := 5)).1 ?_
  refine callsIn_of_wp_marks Try.func67 rfl trivial ?_ rfl
  simp only [Try.ntmps67, List.size_toArray, List.length_cons, List.length_nil, Nat.reduceAdd, Nat.reduceSub, Array.replicate_succ, Array.replicate_zero, List.push_toArray, List.append_toArray, List.nil_append, List.cons_append]
  gi_wp2_with (refine ⟨trivial, ?_⟩; gi_at_call 65; rw [← HW2.out]; refine (callsIn_wide.2 (HHOP.out W2)).mono ?_; rintro e W0 ⟨rfl, sb, hB0, hsz0⟩; have HSZ0 := Lib.hid hsz0; clear hsz0)
  have HQ := Lib.hid (HSEQ.out W0 W2.heap.size (bt E0.bel hB0) (by have := E0.lt; have := HSZ0.out; omega) sb E0.lt)
  have E1 := E0.call hB0
  have X1 : Boxed W0 (w.heap.size + 1 + 1 + 1) 3 (.int .i64 21) := heap_keep hB0 X0
  have hle1 : w.heap.size ≤ W0.heap.size := by have := E1.lt; omega
  clear E0 X0 sb hB0
  refine wpIn_rangeO rfl (by omega) (gf := 85) (lb := #[bp W2.heap.size]) rfl trivial (enters_of Try.func85 (by kernel_rfl) rfl) HQ.out Kc.trans Kc.b (Below.refl _ _) (fun _ => rfl)
    (fun pre V => (Bh w E j size V ∧ Boxed V (w.heap.size + 1 + 1 + 1) 3 (.int .i64 (bfp E j size pre))) ∧ W0.heap.size ≤ V.heap.size)
    (fun _ _ _ => False)
    (OwnFrom.and (OwnFrom.and (Bh.own hle1) (own_bx _ _ _)) (fun _ _ _ _ hs hg _ => Nat.le_trans hs hg.size))
    (fun _ _ _ _ _ hs _ _ => hs)
    ⟨⟨E1, X1⟩, Nat.le_refl _⟩
    (fun x a' V => ∃ Bx, W0.heap.size ≤ Bx ∧ Hb V Bx x.1 ∧ a' = { tmps := #[.slice A len cap, av E, .int .i64 (j : Int), .int .i64 size, undef, bp w.heap.size, bp (w.heap.size + 1), bp (w.heap.size + 1 + 1), .int .i64 0, bp (w.heap.size + 1 + 1 + 1), bp Bx, .slice A len cap, .func (.func 85) #[] #[bp W2.heap.size], x.1.v, undef, undef, undef, undef, undef, undef, undef, undef, undef, undef, undef, undef, undef, undef, undef, undef, undef, undef, undef, undef, undef, undef], defers := [] })
    (fun x a' _ X Y row hs hg hr => by obtain ⟨Bx, h1, h2, h3⟩ := hs; exact ⟨Bx, h1, heap_own h2 rfl hg (fun r e => (hr r e).2), h3⟩)
    ?assign ?body ?done ?stop
  case assign =>
    rintro lp pre x V K ⟨⟨q1, q2⟩, hge⟩ hK
    gi_wp2
    exact hK _ _ ((KeepsOthers.alloc _ _).from _) (Kc.of (bel1 V _)) ⟨⟨q1.call (bel1 V _), q2.alloc _⟩, by simp; omega⟩ ⟨V.heap.size, hge, Hb.new V x.1, rfl⟩
  case body =>
    rintro lp pre x a' V hlp ⟨r, hr⟩ ⟨⟨q1, q2⟩, hge⟩ ⟨Bx, hBx, N0, rfl⟩ hlt
    have hsn := bfp_snoc E j size pre x
    generalize bfp E j size pre = m at *
    have HSN := Lib.hid hsn
    have HQ1 := Lib.hid q1
    have HQ2 := Lib.hid q2
    have HGE := Lib.hid hge
    have hBV := hlt_of N0
    obtain ⟨⟨src, dst, wn⟩, hxo⟩ := x
    have hx1 := hxo.src
    have hx2 := hxo.dst
    have hx3 := hxo.w
    dsimp only at hx1 hx2 hx3
    obtain ⟨sn, rfl⟩ : ∃ sn : Nat, src = sn := ⟨src.toNat, by omega⟩
    obtain ⟨dn, rfl⟩ : ∃ dn : Nat, dst = dn := ⟨dst.toNat, by omega⟩
    have hs21 : (sn : Int) < 21 := by omega
    have hj21 : (j : Int) < 21 := by omega
    have hsn' : sn < 21 := by omega
    have cS := q1.at'.cell (i := sn) (by rw [HEE.out.len]; exact hsn')
    have cJ := q1.at'.cell (i := j) (by rw [HEE.out.len]; exact hj)
    have hbS := HEE.out.bd sn hsn'
    have HEND := Lib.hid (fun (X : World) => pend_any ⟨sn, dn, wn⟩ (gt E (sn : Int)) size X hx3 hbS HSB.out)
    have cZ := q1.sz.cell
    have cN := q1.nd.cell
    dsimp only at HEND N0
    obtain ⟨kd, wa, wb, wf, wu, wr'⟩ := wn
    obtain ⟨⟨n0, n1, n2, n3, n4, n5, n6, n7⟩, -⟩ := row8 N0
    dsimp only at n0 n1 n2 n3 n4 n5 n6 n7 HEND
    have HN0 := Lib.hid N0
    generalize htS : gt E (sn : Int) = tS at *
    generalize htJ : gt E (j : Int) = tJ at *
    generalize heE : hend' ⟨kd, wa, wb, wf, wu, wr'⟩ tS size = eE at *
    have HES := Lib.hid (And.intro htS (And.intro htJ heE))
    have L0 : Below V.heap.size V V.drew := (Below.refl _ _).drew
    clear q1 q2 hge hr hlt hsn hx1 hx2 hx3 htS htJ heE N0 hbS hE
    by_cases hdj : dn = j
    · subst hdj
      gi_wp2
      refine wpIn_region_held_round (S := fun X => X.cell? ⟨Bx, 0, none⟩ = some (.int .i64 (sn : Int)) ∧ X.cell? ⟨Bx, 1, none⟩ = some (.int .i64 (dn : Int)) ∧ X.cell? ⟨Bx, 2, none⟩ = some (.int .i64 kd) ∧ X.cell? ⟨Bx, 3, none⟩ = some (.int .i64 wa) ∧ X.cell? ⟨Bx, 4, none⟩ = some (.int .i64 wb) ∧ X.cell? ⟨Bx, 5, none⟩ = some (.int .i64 wf) ∧ X.cell? ⟨Bx, 6, none⟩ = some (.int .i64 wu) ∧ X.cell? ⟨Bx, 7, none⟩ = some (.int .i64 wr') ∧ X.cell? ⟨w.heap.size, sn, none⟩ = some (.int .i64 tS) ∧ X.cell? ⟨w.heap.size, dn, none⟩ = some (.int .i64 tJ) ∧ X.cell? ⟨w.heap.size + 1 + 1, 0, none⟩ = some (.int .i64 size) ∧ X.cell? ⟨w.heap.size + 1, 0, none⟩ = some (.int .i64 (dn : Int))) (fun ⟨_, _, h⟩ => h) rfl (by kernel_rfl) ⟨n0, n1, n2, n3, n4, n5, n6, n7, cS, cJ, cZ, cN⟩ (fun hHeld => ?_)
      refine wpAnyH_take (i := 0) (oi := { dst := some 14, op := _, type := _, pos := _, after := _, guard := _ }) (v := ?_) rfl (by kernel_rfl) (by kernel_rfl) (by kernel_rfl) (fun _ _ _ h => h) (Or.inl ⟨by rfl, ?_⟩) (by assumption) ?_
      rotate_left
      · (intro w hSw; (try dsimp only at hSw); go_simp)
        first | done | with_reducible rfl
      try simp only [Act.put, List.setIfInBounds_toArray, List.set_cons_zero, List.set_cons_succ]
      refine wpAnyH_take (i := 1) (oi := { dst := some 15, op := _, type := _, pos := _, after := _, guard := _ }) (v := ?_) rfl (by kernel_rfl) (by kernel_rfl) (by kernel_rfl) (fun _ _ _ h => h) (Or.inl ⟨by rfl, ?_⟩) (by assumption) ?_
      rotate_left
      · (intro w hSw; (try dsimp only at hSw); go_simp)
        first | done | with_reducible rfl
      try simp only [Act.put, List.setIfInBounds_toArray, List.set_cons_zero, List.set_cons_succ]
      refine wpAnyH_take (i := 2) (oi := { dst := some 16, op := _, type := _, pos := _, after := _, guard := _ }) (v := ?_) rfl (by kernel_rfl) (by kernel_rfl) (by kernel_rfl) (fun _ _ _ h => h) (Or.inl ⟨by rfl, ?_⟩) (by assumption) ?_
      rotate_left
      · (intro w hSw; (try dsimp only at hSw); go_simp)
        first | done | with_reducible rfl
      try simp only [Act.put, List.setIfInBounds_toArray, List.set_cons_zero, List.set_cons_succ]
      refine wpAnyH_take (i := 3) (oi := { dst := some 17, op := _, type := _, pos := _, after := _, guard := _ }) (v := ?_) rfl (by kernel_rfl) (by kernel_rfl) (by kernel_rfl) (fun _ _ _ h => h) (Or.inl ⟨by rfl, ?_⟩) (by assumption) ?_
      rotate_left
      · (intro w hSw; (try dsimp only at hSw); go_simp)
        first | done | with_reducible rfl
      try simp only [Act.put, List.setIfInBounds_toArray, List.set_cons_zero, List.set_cons_succ]
      refine wpAnyH_take (i := 4) (oi := { dst := some 18, op := _, type := _, pos := _, after := _, guard := _ }) (v := ?_) rfl (by kernel_rfl) (by kernel_rfl) (by kernel_rfl) (fun _ _ _ h => h) (Or.inl ⟨by rfl, ?_⟩) (by assumption) ?_
      rotate_left
      · (intro w hSw; (try dsimp only at hSw); go_simp)
        first | done | with_reducible rfl
      try simp only [Act.put, List.setIfInBounds_toArray, List.set_cons_zero, List.set_cons_succ]
      refine wpAnyH_take (i := 5) (oi := { dst := some 19, op := _, type := _, pos := _, after := _, guard := _ }) (v := ?_) rfl (by kernel_rfl) (by kernel_rfl) (by kernel_rfl) (fun _ _ _ h => h) (Or.inl ⟨by rfl, ?_⟩) (by assumption) ?_
      rotate_left
      · (intro w hSw; (try dsimp only at hSw); go_simp)
        first | done | with_reducible rfl
      try simp only [Act.put, List.setIfInBounds_toArray, List.set_cons_zero, List.set_cons_succ]
      refine wpAnyH_take (i := 6) (oi := { dst := some 20, op := _, type := _, pos := _, after := _, guard := _ }) (v := ?_) rfl (by kernel_rfl) (by kernel_rfl) (by kernel_rfl) (fun _ _ _ h => h) (Or.inl ⟨by rfl, ?_⟩) (by assumption) ?_
      rotate_left
      · (intro w hSw; (try dsimp only at hSw); go_simp)
        first | done | with_reducible rfl
      try simp only [Act.put, List.setIfInBounds_toArray, List.set_cons_zero, List.set_cons_succ]
      refine wpAnyH_take (i := 7) (oi := { dst := some 21, op := _, type := _, pos := _, after := _, guard := _ }) (v := ?_) rfl (by kernel_rfl) (by kernel_rfl) (by kernel_rfl) (fun _ _ _ h => h) (Or.inl ⟨by rfl, ?_⟩) (by assumption) ?_
      rotate_left
      · (intro w hSw; (try dsimp only at hSw); go_simp)
        first | done | with_reducible rfl
      try simp only [Act.put, List.setIfInBounds_toArray, List.set_cons_zero, List.set_cons_succ]
      refine wpAnyH_take (i := 8) (oi := { dst := some 22, op := _, type := _, pos := _, after := _, guard := _ }) (v := ?_) rfl (by kernel_rfl) (by kernel_rfl) (by kernel_rfl) (fun _ _ _ h => h) (Or.inl ⟨by rfl, ?_⟩) (by assumption) ?_
      rotate_left
      · (intro w hSw; (try dsimp only at hSw); go_simp)
        first | done | with_reducible rfl
      try simp only [Act.put, List.setIfInBounds_toArray, List.set_cons_zero, List.set_cons_succ]
      refine wpAnyH_take (i := 9) (oi := { dst := some 23, op := _, type := _, pos := _, after := _, guard := _ }) (v := ?_) rfl (by kernel_rfl) (by kernel_rfl) (by kernel_rfl) (fun _ _ _ h => h) (Or.inl ⟨by rfl, ?_⟩) (by assumption) ?_
      rotate_left
      · (intro w hSw; (try dsimp only at hSw); go_simp)
        first | done | with_reducible rfl
      try simp only [Act.put, List.setIfInBounds_toArray, List.set_cons_zero, List.set_cons_succ]
      refine wpAnyH_take (i := 10) (oi := { dst := some 24, op := _, type := _, pos := _, after := _, guard := _ }) (v := ?_) rfl (by kernel_rfl) (by kernel_rfl) (by kernel_rfl) (fun _ _ _ h => h) (Or.inl ⟨by rfl, ?_⟩) (by assumption) ?_
      rotate_left
      · (intro w hSw; (try dsimp only at hSw); go_simp)
        first | done | with_reducible rfl
      try simp only [Act.put, List.setIfInBounds_toArray, List.set_cons_zero, List.set_cons_succ]
      refine wpAnyH_take (i := 12) (oi := { dst := some 26, op := _, type := _, pos := _, after := _, guard := _ }) (v := ?_) rfl (by kernel_rfl) (by kernel_rfl) (by kernel_rfl) (fun _ _ _ h => h) (Or.inl ⟨by rfl, ?_⟩) (by assumption) ?_
      rotate_left
      · (intro w hSw; (try dsimp only at hSw); go_simp)
        first | done | with_reducible rfl
      try simp only [Act.put, List.setIfInBounds_toArray, List.set_cons_zero, List.set_cons_succ]
      refine wpAnyH_take (i := 13) (oi := { dst := some 27, op := _, type := _, pos := _, after := _, guard := _ }) (v := ?_) rfl (by kernel_rfl) (by kernel_rfl) (by kernel_rfl) (fun _ _ _ h => h) (Or.inl ⟨by rfl, ?_⟩) (by assumption) ?_
      rotate_left
      · (intro w hSw; (try dsimp only at hSw); go_simp)
        first | done | with_reducible rfl
      try simp only [Act.put, List.setIfInBounds_toArray, List.set_cons_zero, List.set_cons_succ]
      refine wpAnyH_take (i := 14) (oi := { dst := some 28, op := _, type := _, pos := _, after := _, guard := _ }) (v := ?_) rfl (by kernel_rfl) (by kernel_rfl) (by kernel_rfl) (fun _ _ _ h => h) (Or.inl ⟨by rfl, ?_⟩) (by assumption) ?_
      rotate_left
      · (intro w hSw; (try dsimp only at hSw); go_simp)
        first | done | with_reducible rfl
      try simp only [Act.put, List.setIfInBounds_toArray, List.set_cons_zero, List.set_cons_succ]
      refine wpAnyH_ready (rs := [11]) (by kernel_rfl) (by simp) ?_
      refine AllReadyH.cons (o := { dst := some 25, op := _, type := _, pos := _, after := _, guard := _ }) rfl (fun K hK => ?_) AllReadyH.nil
      go_simp
      go_at_call 66; refine (HEND.out _).mono ?_
      rintro r V7 ⟨rfl, hB7⟩
      go_wp2_with fail
      have L7 := bt L0 hB7
      refine hK.out _ _ ⟨below_cell L7 n0, below_cell L7 n1, below_cell L7 n2, below_cell L7 n3, below_cell L7 n4, below_cell L7 n5, below_cell L7 n6, below_cell L7 n7, below_cell L7 cS, below_cell L7 cJ, below_cell L7 cZ, below_cell L7 cN⟩ (fun hH2 => ?_)
      clear hK K hHeld
      rename _ => hHeld
      try simp only [Act.put, List.setIfInBounds_toArray, List.set_cons_zero, List.set_cons_succ]
      refine wpAnyH_take (i := 15) (oi := { dst := some 29, op := _, type := _, pos := _, after := _, guard := _ }) (v := ?_) rfl (by kernel_rfl) (by kernel_rfl) (by kernel_rfl) (fun _ _ _ h => h) (Or.inl ⟨by rfl, ?_⟩) (by assumption) ?_
      rotate_left
      · (intro w hSw; (try dsimp only at hSw); go_simp)
        first | done | with_reducible rfl
      try simp only [Act.put, List.setIfInBounds_toArray, List.set_cons_zero, List.set_cons_succ]
      refine wpAnyH_take (i := 16) (oi := { dst := some 30, op := _, type := _, pos := _, after := _, guard := _ }) (v := ?_) rfl (by kernel_rfl) (by kernel_rfl) (by kernel_rfl) (fun _ _ _ h => h) (Or.inl ⟨by rfl, ?_⟩) (by assumption) ?_
      rotate_left
      · (intro w hSw; (try dsimp only at hSw); go_simp)
        first | done | with_reducible rfl
      try simp only [Act.put, List.setIfInBounds_toArray, List.set_cons_zero, List.set_cons_succ]
      refine wpAnyH_done (by kernel_rfl) ?_ _
      have E7 := HQ1.out.call L7
      have X7 : Boxed V7 (w.heap.size + 1 + 1 + 1) 3 (.int .i64 m) := heap_keep L7 HQ2.out
      have p0 := below_cell L7 n0
      have xc := X7.cell
      have xf := X7.frozen
      have HL7 := Lib.hid L7
      have HE7 := Lib.hid E7
      have HX7 := Lib.hid X7
      have hge7 : W0.heap.size ≤ V7.heap.size := Nat.le_trans HGE.out L7.size
      clear n0 n1 n2 n3 n4 n5 n6 n7 cS cJ cZ cN hHeld L7 hB7 L0 E7 X7
      by_cases hc : eE = tJ
      · gi_wp2
        refine ⟨KeepsFrom.trans ⟨HL7.out.size, fun k o _ hk _ => heap_keep HL7.out hk⟩ ((KeepsOthers.setCell V7 _ _).from _), (Kc.of HL7.out).trans (Kc.set _ rfl), ⟨⟨HE7.out.oth _, ?_⟩, Nat.le_trans hge7 (KeepsOthers.setCell V7 ⟨w.heap.size + 1 + 1 + 1, 0, none⟩ (.int .i64 (min m (sn : Int)))).size⟩⟩
        rw [HSN.out]
        unfold bstep
        dsimp only
        rw [HES.out.1, HES.out.2.2, HES.out.2.1, if_pos ⟨rfl, hc⟩]
        exact HX7.out.set _
      · gi_wp2
        refine ⟨⟨HL7.out.size, fun k o _ hk _ => heap_keep HL7.out hk⟩, Kc.of HL7.out, ⟨⟨HE7.out, ?_⟩, hge7⟩⟩
        rw [HSN.out]
        unfold bstep
        dsimp only
        rw [HES.out.1, HES.out.2.2, HES.out.2.1, if_neg (fun h => hc h.2)]
        exact HX7.out
    · have hdi : ¬ (dn : Int) = (j : Int) := by omega
      have hdb : ((dn : Int) == (j : Int)) = false := by simp; omega
      gi_wp2
      refine wpIn_region_held_round (S := fun X => X.cell? ⟨Bx, 0, none⟩ = some (.int .i64 (sn : Int)) ∧ X.cell? ⟨Bx, 1, none⟩ = some (.int .i64 (dn : Int)) ∧ X.cell? ⟨Bx, 2, none⟩ = some (.int .i64 kd) ∧ X.cell? ⟨Bx, 3, none⟩ = some (.int .i64 wa) ∧ X.cell? ⟨Bx, 4, none⟩ = some (.int .i64 wb) ∧ X.cell? ⟨Bx, 5, none⟩ = some (.int .i64 wf) ∧ X.cell? ⟨Bx, 6, none⟩ = some (.int .i64 wu) ∧ X.cell? ⟨Bx, 7, none⟩ = some (.int .i64 wr') ∧ X.cell? ⟨w.heap.size, sn, none⟩ = some (.int .i64 tS) ∧ X.cell? ⟨w.heap.size, j, none⟩ = some (.int .i64 tJ) ∧ X.cell? ⟨w.heap.size + 1 + 1, 0, none⟩ = some (.int .i64 size) ∧ X.cell? ⟨w.heap.size + 1, 0, none⟩ = some (.int .i64 (j : Int))) (fun ⟨_, _, h⟩ => h) rfl (by kernel_rfl) ⟨n0, n1, n2, n3, n4, n5, n6, n7, cS, cJ, cZ, cN⟩ (fun hHeld => ?_)
      refine wpAnyH_take (i := 0) (oi := { dst := some 14, op := _, type := _, pos := _, after := _, guard := _ }) (v := ?_) rfl (by kernel_rfl) (by kernel_rfl) (by kernel_rfl) (fun _ _ _ h => h) (Or.inl ⟨by rfl, ?_⟩) (by assumption) ?_
      rotate_left
      · (intro w hSw; (try dsimp only at hSw); go_simp)
        first | done | with_reducible rfl
      try simp only [Act.put, List.setIfInBounds_toArray, List.set_cons_zero, List.set_cons_succ]
      refine wpAnyH_take (i := 1) (oi := { dst := some 15, op := _, type := _, pos := _, after := _, guard := _ }) (v := ?_) rfl (by kernel_rfl) (by kernel_rfl) (by kernel_rfl) (fun _ _ _ h => h) (Or.inl ⟨by rfl, ?_⟩) (by assumption) ?_
      rotate_left
      · (intro w hSw; (try dsimp only at hSw); go_simp)
        first | done | with_reducible rfl
      try simp only [Act.put, List.setIfInBounds_toArray, List.set_cons_zero, List.set_cons_succ]
      refine wpAnyH_take (i := 2) (oi := { dst := some 16, op := _, type := _, pos := _, after := _, guard := _ }) (v := ?_) rfl (by kernel_rfl) (by kernel_rfl) (by kernel_rfl) (fun _ _ _ h => h) (Or.inl ⟨by rfl, ?_⟩) (by assumption) ?_
      rotate_left
      · (intro w hSw; (try dsimp only at hSw); go_simp)
        first | done | with_reducible rfl
      try simp only [Act.put, List.setIfInBounds_toArray, List.set_cons_zero, List.set_cons_succ]
      refine wpAnyH_take (i := 3) (oi := { dst := some 17, op := _, type := _, pos := _, after := _, guard := _ }) (v := ?_) rfl (by kernel_rfl) (by kernel_rfl) (by kernel_rfl) (fun _ _ _ h => h) (Or.inl ⟨by rfl, ?_⟩) (by assumption) ?_
      rotate_left
      · (intro w hSw; (try dsimp only at hSw); go_simp)
        first | done | with_reducible rfl
      try simp only [Act.put, List.setIfInBounds_toArray, List.set_cons_zero, List.set_cons_succ]
      refine wpAnyH_take (i := 4) (oi := { dst := some 18, op := _, type := _, pos := _, after := _, guard := _ }) (v := ?_) rfl (by kernel_rfl) (by kernel_rfl) (by kernel_rfl) (fun _ _ _ h => h) (Or.inl ⟨by rfl, ?_⟩) (by assumption) ?_
      rotate_left
      · (intro w hSw; (try dsimp only at hSw); go_simp)
        first | done | with_reducible rfl
      try simp only [Act.put, List.setIfInBounds_toArray, List.set_cons_zero, List.set_cons_succ]
      refine wpAnyH_take (i := 5) (oi := { dst := some 19, op := _, type := _, pos := _, after := _, guard := _ }) (v := undef) rfl (by kernel_rfl) (by kernel_rfl) (by kernel_rfl) (fun _ _ _ h => h) (Or.inr ⟨by rfl, rfl⟩) (by assumption) ?_
      try simp only [Act.put, List.setIfInBounds_toArray, List.set_cons_zero, List.set_cons_succ]
      refine wpAnyH_take (i := 6) (oi := { dst := some 20, op := _, type := _, pos := _, after := _, guard := _ }) (v := undef) rfl (by kernel_rfl) (by kernel_rfl) (by kernel_rfl) (fun _ _ _ h => h) (Or.inr ⟨by rfl, rfl⟩) (by assumption) ?_
      try simp only [Act.put, List.setIfInBounds_toArray, List.set_cons_zero, List.set_cons_succ]
      refine wpAnyH_take (i := 7) (oi := { dst := some 21, op := _, type := _, pos := _, after := _, guard := _ }) (v := undef) rfl (by kernel_rfl) (by kernel_rfl) (by kernel_rfl) (fun _ _ _ h => h) (Or.inr ⟨by rfl, rfl⟩) (by assumption) ?_
      try simp only [Act.put, List.setIfInBounds_toArray, List.set_cons_zero, List.set_cons_succ]
      refine wpAnyH_take (i := 8) (oi := { dst := some 22, op := _, type := _, pos := _, after := _, guard := _ }) (v := undef) rfl (by kernel_rfl) (by kernel_rfl) (by kernel_rfl) (fun _ _ _ h => h) (Or.inr ⟨by rfl, rfl⟩) (by assumption) ?_
      try simp only [Act.put, List.setIfInBounds_toArray, List.set_cons_zero, List.set_cons_succ]
      refine wpAnyH_take (i := 9) (oi := { dst := some 23, op := _, type := _, pos := _, after := _, guard := _ }) (v := undef) rfl (by kernel_rfl) (by kernel_rfl) (by kernel_rfl) (fun _ _ _ h => h) (Or.inr ⟨by rfl, rfl⟩) (by assumption) ?_
      try simp only [Act.put, List.setIfInBounds_toArray, List.set_cons_zero, List.set_cons_succ]
      refine wpAnyH_take (i := 10) (oi := { dst := some 24, op := _, type := _, pos := _, after := _, guard := _ }) (v := undef) rfl (by kernel_rfl) (by kernel_rfl) (by kernel_rfl) (fun _ _ _ h => h) (Or.inr ⟨by rfl, rfl⟩) (by assumption) ?_
      try simp only [Act.put, List.setIfInBounds_toArray, List.set_cons_zero, List.set_cons_succ]
      refine wpAnyH_take (i := 11) (oi := { dst := some 25, op := _, type := _, pos := _, after := _, guard := _ }) (v := undef) rfl (by kernel_rfl) (by kernel_rfl) (by kernel_rfl) (fun _ _ _ h => h) (Or.inr ⟨by rfl, rfl⟩) (by assumption) ?_
      try simp only [Act.put, List.setIfInBounds_toArray, List.set_cons_zero, List.set_cons_succ]
      refine wpAnyH_take (i := 12) (oi := { dst := some 26, op := _, type := _, pos := _, after := _, guard := _ }) (v := undef) rfl (by kernel_rfl) (by kernel_rfl) (by kernel_rfl) (fun _ _ _ h => h) (Or.inr ⟨by rfl, rfl⟩) (by assumption) ?_
      try simp only [Act.put, List.setIfInBounds_toArray, List.set_cons_zero, List.set_cons_succ]
      refine wpAnyH_take (i := 13) (oi := { dst := some 27, op := _, type := _, pos := _, after := _, guard := _ }) (v := undef) rfl (by kernel_rfl) (by kernel_rfl) (by kernel_rfl) (fun _ _ _ h => h) (Or.inr ⟨by rfl, rfl⟩) (by assumption) ?_
      try simp only [Act.put, List.setIfInBounds_toArray, List.set_cons_zero, List.set_cons_succ]
      refine wpAnyH_take (i := 14) (oi := { dst := some 28, op := _, type := _, pos := _, after := _, guard := _ }) (v := undef) rfl (by kernel_rfl) (by kernel_rfl) (by kernel_rfl) (fun _ _ _ h => h) (Or.inr ⟨by rfl, rfl⟩) (by assumption) ?_
      try simp only [Act.put, List.setIfInBounds_toArray, List.set_cons_zero, List.set_cons_succ]
      refine wpAnyH_take (i := 15) (oi := { dst := some 29, op := _, type := _, pos := _, after := _, guard := _ }) (v := undef) rfl (by kernel_rfl) (by kernel_rfl) (by kernel_rfl) (fun _ _ _ h => h) (Or.inr ⟨by rfl, rfl⟩) (by assumption) ?_
      try simp only [Act.put, List.setIfInBounds_toArray, List.set_cons_zero, List.set_cons_succ]
      refine wpAnyH_take (i := 16) (oi := { dst := some 30, op := _, type := _, pos := _, after := _, guard := _ }) (v := ?_) rfl (by kernel_rfl) (by kernel_rfl) (by kernel_rfl) (fun _ _ _ h => h) (Or.inl ⟨by rfl, ?_⟩) (by assumption) ?_
      rotate_left
      · (intro w hSw; (try dsimp only at hSw); go_simp)
        first | done | with_reducible rfl
      try simp only [Act.put, List.setIfInBounds_toArray, List.set_cons_zero, List.set_cons_succ]
      refine wpAnyH_done (by kernel_rfl) ?_ _
      gi_wp2
      refine ⟨⟨L0.size, fun k o _ hk _ => heap_keep L0 hk⟩, Kc.of L0, ⟨⟨HQ1.out.call L0, ?_⟩, HGE.out⟩⟩
      rw [HSN.out]
      unfold bstep
      dsimp only
      rw [if_neg (fun h => hdi h.1)]
      exact HQ2.out
  case done =>
    rintro D zs V hD rfl ⟨⟨q1, q2⟩, hge⟩ hK
    rw [HV.out] at q2
    have hq := q2.cell
    have HB := Lib.hid q1.bel
    clear q1 q2
    gi_wp2
    refine ⟨by simp, .inl ⟨_, _, rfl, run_takeDeferred hK, ?_⟩⟩
    exact ⟨_, results_tmp rfl _ _ _, rfl, HB.out.trans (belowK_b (w := w) (Nat.le_refl _) V D _ _ (by omega) hK rfl rfl)⟩
  case stop =>
    rintro D c pre V hD _ h _
    exact h.elim
end Q
end Go.Proofs.Ytojflmejkigdiaa
