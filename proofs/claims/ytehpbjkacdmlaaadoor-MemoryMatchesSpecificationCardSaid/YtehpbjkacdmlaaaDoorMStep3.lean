/-
  step of the laws of package memory: a scrub.
-/
import Derived.Test.YtehpbjkacdmlaaaDoorMStep
namespace Go.Proofs.YtehpbjkacdmlaaaDoor
open Go.RowKit
namespace M
open H
set_option linter.unusedVariables false
set_option maxRecDepth 100000
theorem RM.tab_off {w : World} {b : Nat} {v : Value} {m : Mem} (h : RM w b v m) (hm : m.ok) (tb : E.Tab w) : ¬ FT b v 0 := by
  intro hk
  have ht := tb 0 (by decide)
  rcases hk with hk | hk
  · subst hk
    have c0 := blk_cell h.blk 0
    obtain ⟨g, c, rfl, _, _, _⟩ := h.shape hm
    rw [ht] at c0
    simp [rcs] at c0
  · obtain ⟨g, c, rfl, _, _, _⟩ := h.shape hm
    have hg : g = 0 := by simpa [Value.ownBlock] using hk
    have c0 := h.code (k := 0) hm.pos
    rw [hg, ht] at c0
    simp at c0
/-- A memory and its specification on the way through the region: the box of the operation, the two new structs so far as they are there. -/
structure Bun (w0 : World) (bm : Nat) (vm : Value) (br : Nat) (vr : Value) (op : Array Value) (N : Nat) (mp mr : Mem) (x8 x9 : Option Nat) (W : World) : Prop where
  pm : PM W bm vm mp
  rm : RM W br vr mr
  apart : ∀ k, FT bm vm k → ¬ FT br vr k
  old : ∀ k, FT bm vm k ∨ FT br vr k → k < N
  low : w0.heap.size = N
  tabp : ¬ FT bm vm 0
  tabr : ¬ FT br vr 0
  tab : E.Tab W
  save : Save (fun k => FT bm vm k ∨ FT br vr k) w0 W
  box : W.heap[N]? = some (.cells op 35 (0, 0))
  n8 : ∀ A, x8 = some A → N < A ∧ W.heap[A]? = some (.cells #[.int .i64 0, .int .i64 0, .int .i64 0] 54 (0, 0))
  n9 : ∀ A, x9 = some A → N < A ∧ W.heap[A]? = some (.cells #[.int .i64 0, .int .i64 0, .int .i64 0] 75 (0, 0))
theorem Bun.cell {w0 : World} {bm : Nat} {vm : Value} {br : Nat} {vr : Value} {a b n d : Value} {N : Nat} {mp mr : Mem} {x8 x9 : Option Nat} {W : World} (h : Bun w0 bm vm br vr #[a, b, n, d] N mp mr x8 x9 W) : W.cell? ⟨N, 2, none⟩ = some n := by
  have := blk_cell h.box 2
  simpa using this
theorem Bun.drew {w0 : World} {bm : Nat} {vm : Value} {br : Nat} {vr : Value} {op : Array Value} {N : Nat} {mp mr : Mem} {x8 x9 : Option Nat} {W : World} (h : Bun w0 bm vm br vr op N mp mr x8 x9 W) : Bun w0 bm vm br vr op N mp mr x8 x9 W.drew :=
  ⟨h.pm.drew, RM.drew h.rm, h.apart, h.old, h.low, h.tabp, h.tabr, h.tab, h.save.drew, h.box, h.n8, h.n9⟩
theorem Bun.callP {w0 : World} {bm : Nat} {vm : Value} {br : Nat} {vr : Value} {op : Array Value} {N : Nat} {mp mr m' : Mem} {x8 x9 : Option Nat} {W W' : World} (h : Bun w0 bm vm br vr op N mp mr x8 x9 W) (hp : PM W' bm vm m') (hs : Save (FT bm vm) W W') : Bun w0 bm vm br vr op N m' mr x8 x9 W' := by
  have ho : ∀ {i : Nat} {o : Obj}, N ≤ i → W.heap[i]? = some o → W'.heap[i]? = some o := fun {i o} hi hw => (hs.block i (blk_lt hw) (fun e => by have := h.old i (.inl e); omega)).trans hw
  exact ⟨hp, h.rm.save hs fun k hk hk2 => h.apart k hk2 hk, h.apart, h.old, h.low, h.tabp, h.tabr, tab_save h.tab hs h.tabp, h.save.trans (hs.more fun k hk => .inl hk), ho (Nat.le_refl _) h.box,
    fun A hA => ⟨(h.n8 A hA).1, ho (Nat.le_of_lt (h.n8 A hA).1) (h.n8 A hA).2⟩, fun A hA => ⟨(h.n9 A hA).1, ho (Nat.le_of_lt (h.n9 A hA).1) (h.n9 A hA).2⟩⟩
theorem Bun.callR {w0 : World} {bm : Nat} {vm : Value} {br : Nat} {vr : Value} {op : Array Value} {N : Nat} {mp mr m' : Mem} {x8 x9 : Option Nat} {W W' : World} (h : Bun w0 bm vm br vr op N mp mr x8 x9 W) (hp : RM W' br vr m') (hs : Save (FT br vr) W W') : Bun w0 bm vm br vr op N mp m' x8 x9 W' := by
  have ho : ∀ {i : Nat} {o : Obj}, N ≤ i → W.heap[i]? = some o → W'.heap[i]? = some o := fun {i o} hi hw => (hs.block i (blk_lt hw) (fun e => by have := h.old i (.inr e); omega)).trans hw
  exact ⟨h.pm.save hs fun k hk hk2 => h.apart k hk hk2, hp, h.apart, h.old, h.low, h.tabp, h.tabr, tab_save h.tab hs h.tabr, h.save.trans (hs.more fun k hk => .inr hk), ho (Nat.le_refl _) h.box,
    fun A hA => ⟨(h.n8 A hA).1, ho (Nat.le_of_lt (h.n8 A hA).1) (h.n8 A hA).2⟩, fun A hA => ⟨(h.n9 A hA).1, ho (Nat.le_of_lt (h.n9 A hA).1) (h.n9 A hA).2⟩⟩
theorem Bun.alloc8 {w0 : World} {bm : Nat} {vm : Value} {br : Nat} {vr : Value} {op : Array Value} {N : Nat} {mp mr : Mem} {x9 : Option Nat} {W : World} (h : Bun w0 bm vm br vr op N mp mr none x9 W) :
    Bun w0 bm vm br vr op N mp mr (some W.heap.size) x9 (W.alloc (.cells #[.int .i64 0, .int .i64 0, .int .i64 0] 54)) := by
  have hb : Below W.heap.size W (W.alloc (.cells #[.int .i64 0, .int .i64 0, .int .i64 0] 54)) := (Below.refl _ _).alloc (Nat.le_refl _) _
  have ho : ∀ {i : Nat} {o : Obj}, W.heap[i]? = some o → (W.alloc (.cells #[.int .i64 0, .int .i64 0, .int .i64 0] 54)).heap[i]? = some o := fun {i o} hw => (hb.block i (blk_lt hw)).trans hw
  exact ⟨h.pm.keep hb, h.rm.keep hb, h.apart, h.old, h.low, h.tabp, h.tabr, tab_save h.tab (Save.of_below (FT bm vm) hb) h.tabp, h.save.alloc _, ho h.box,
    fun A hA => by injection hA with hA; subst hA; exact ⟨blk_lt h.box, heap_alloc_new W _⟩, fun A hA => ⟨(h.n9 A hA).1, ho (h.n9 A hA).2⟩⟩
theorem Bun.alloc9 {w0 : World} {bm : Nat} {vm : Value} {br : Nat} {vr : Value} {op : Array Value} {N : Nat} {mp mr : Mem} {x8 : Option Nat} {W : World} (h : Bun w0 bm vm br vr op N mp mr x8 none W) :
    Bun w0 bm vm br vr op N mp mr x8 (some W.heap.size) (W.alloc (.cells #[.int .i64 0, .int .i64 0, .int .i64 0] 75)) := by
  have hb : Below W.heap.size W (W.alloc (.cells #[.int .i64 0, .int .i64 0, .int .i64 0] 75)) := (Below.refl _ _).alloc (Nat.le_refl _) _
  have ho : ∀ {i : Nat} {o : Obj}, W.heap[i]? = some o → (W.alloc (.cells #[.int .i64 0, .int .i64 0, .int .i64 0] 75)).heap[i]? = some o := fun {i o} hw => (hb.block i (blk_lt hw)).trans hw
  exact ⟨h.pm.keep hb, h.rm.keep hb, h.apart, h.old, h.low, h.tabp, h.tabr, tab_save h.tab (Save.of_below (FT bm vm) hb) h.tabp, h.save.alloc _, ho h.box,
    fun A hA => ⟨(h.n8 A hA).1, ho (h.n8 A hA).2⟩, fun A hA => by injection hA with hA; subst hA; exact ⟨blk_lt h.box, heap_alloc_new W _⟩⟩
/-- The two structs are apart. -/
theorem Bun.two {w0 : World} {bm : Nat} {vm : Value} {br : Nat} {vr : Value} {op : Array Value} {N A B : Nat} {mp mr : Mem} {W : World} (h : Bun w0 bm vm br vr op N mp mr (some A) (some B) W) : A ≠ B := by
  rintro rfl
  have h1 := (h.n8 A rfl).2
  rw [(h.n9 A rfl).2] at h1
  injection h1 with h1
  injection h1 with _ h1
  exact absurd h1 (by decide)
theorem set3 {W : World} {N A : Nat} {x y z : Value} (h : N < A) : (((W.setCell ⟨A, 0, none⟩ x).setCell ⟨A, 1, none⟩ y).setCell ⟨A, 2, none⟩ z).cell? ⟨N, 2, none⟩ = W.cell? ⟨N, 2, none⟩ := by
  rw [World.cell?_setCell_other, World.cell?_setCell_other, World.cell?_setCell_other]
  all_goals
    intro e
    have := congrArg Addr.block e
    simp at this
    omega
/-- Both structs have been stored. -/
theorem Bun.fin {w0 : World} {bm : Nat} {vm : Value} {br : Nat} {vr : Value} {op : Array Value} {N A B : Nat} {m : Mem} {W : World} (h : Bun w0 bm vm br vr op N m m (some A) (some B) W) (x y z : Value) (Z : World)
    (hZ : Z = (((((W.setCell ⟨A, 0, none⟩ x).setCell ⟨A, 1, none⟩ y).setCell ⟨A, 2, none⟩ z).setCell ⟨B, 0, none⟩ x).setCell ⟨B, 1, none⟩ y).setCell ⟨B, 2, none⟩ z) :
    Pair Z bm vm br vr m ∧ Save (fun k => FT bm vm k ∨ FT br vr k) w0 Z ∧ Z.heap[A]? = some (.cells #[x, y, z] 54 (0, 0)) ∧ Z.heap[B]? = some (.cells #[x, y, z] 75 (0, 0)) := by
  have hA := h.n8 A rfl
  have hB := h.n9 B rfl
  have hne := h.two
  have hlow := h.low
  have hoth : ∀ k, k ≠ A → k ≠ B → Z.heap[k]? = W.heap[k]? := fun k h1 h2 => by
    rw [hZ]
    exact (Below.heap_setCell _ _ _ _ h2).trans ((Below.heap_setCell _ _ _ _ h2).trans ((Below.heap_setCell _ _ _ _ h2).trans ((Below.heap_setCell _ _ _ _ h1).trans ((Below.heap_setCell _ _ _ _ h1).trans (Below.heap_setCell _ _ _ _ h1)))))
  have hFT : ∀ k, FT bm vm k ∨ FT br vr k → Z.heap[k]? = W.heap[k]? := fun k hk => hoth k (by have := h.old k hk; omega) (by have := h.old k hk; omega)
  refine ⟨⟨Obj1.as h.pm fun k hk => hFT k (.inl hk), Obj1.as h.rm fun k hk => hFT k (.inr hk), h.apart⟩, ?_, ?_, ?_⟩
  · rw [hZ]
    exact ((((((h.save.setNew (p := ⟨A, 0, none⟩) (by show _ ≤ A; omega) x).setNew (p := ⟨A, 1, none⟩) (by show _ ≤ A; omega) y).setNew (p := ⟨A, 2, none⟩) (by show _ ≤ A; omega) z).setNew (p := ⟨B, 0, none⟩) (by show _ ≤ B; omega) x).setNew (p := ⟨B, 1, none⟩) (by show _ ≤ B; omega) y).setNew (p := ⟨B, 2, none⟩) (by show _ ≤ B; omega) z)
  · rw [hZ]
    exact (Below.heap_setCell _ _ _ _ hne).trans ((Below.heap_setCell _ _ _ _ hne).trans ((Below.heap_setCell _ _ _ _ hne).trans (blk_set (blk_set (blk_set hA.2 0 x) 1 y) 2 z)))
  · rw [hZ]
    exact blk_set (blk_set (blk_set ((Below.heap_setCell _ _ _ _ hne.symm).trans ((Below.heap_setCell _ _ _ _ hne.symm).trans ((Below.heap_setCell _ _ _ _ hne.symm).trans hB.2))) 0 x) 1 y) 2 z
set_option maxHeartbeats 16000000 in
theorem step_scrub {w : World} {bm br : Nat} {vm vr : Value} {m : Mem} (h : Pair w bm vm br vr m) (hm : m.ok) (tb : E.Tab w) (hc : m.count < 1000000) (ok : Int) (oa on : Int) (ow : Nat) (how : ow < 4294967296) (hk : ok = 3) :
    Calls Tryd.prog 14 #[.pointer (some ⟨bm, 0, none⟩), .pointer (some ⟨br, 0, none⟩), .agg #[.int .i64 ok, .int .i64 oa, .int .i64 on, .int .u32 (ow : Nat)]] w (StepPost w bm vm br vr (m.scrub on)) := by
  subst hk
  have hb0 : Below w.heap.size w (w.alloc (.cells #[.int .i64 3, .int .i64 oa, .int .i64 on, .int .u32 (ow : Nat)] 35)) := (Below.refl _ _).alloc (Nat.le_refl _) _
  have h0 := h.keep hb0
  have hbx := heap_alloc_new w (.cells #[.int .i64 3, .int .i64 oa, .int .i64 on, .int .u32 (ow : Nat)] 35)
  have HB := Lib.hid (Bun.drew (Bun.mk (w0 := w) (N := w.heap.size) (x8 := none) (x9 := none) h0.pm h0.rm h.apart (fun k hk => by
    rcases hk with hk | hk
    · exact h.pm.lt k hk
    · exact h.rm.lt k hk) rfl (h.pm.tab_off hm tb) (h.rm.tab_off hm tb) (tb.below tb.pos hb0) (Save.of_below _ hb0) hbx (fun A hA => by cases hA) (fun A hA => by cases hA)))
  have HOKM := Lib.hid hm
  have b1 := blk_cell hbx 0
  have y2 := blk_cell hbx 2
  simp only [List.getElem?_toArray, List.getElem?_cons_succ, List.getElem?_cons_zero] at b1 y2
  clear h h0 hbx hm tb hc how hb0
  go_enter Tryd.func14, Tryd.ntmps14
  go_wp2_with fail
  clear b1
  refine wp_region_noPanic ?_
  refine wp_region_held_drew (S := fun w' => w'.cell? ⟨w.heap.size, 2, none⟩ = some (.int .i64 on)) (by kernel_rfl) HB.out.cell (fun hHeld => ?_)
  clear y2
  generalize World.drew _ = wq at HB hHeld ⊢
  refine wpAnyH_take (i := 0) (oi := { dst := some 74, op := _, type := _, pos := _, after := _, guard := _ }) (v := ?_) rfl (by kernel_rfl) (by kernel_rfl) (by kernel_rfl) (fun _ _ _ h => h) (Or.inl ⟨by rfl, ?_⟩) (by assumption) ?_
  rotate_left
  · (intro w hSw; (try dsimp only at hSw); go_simp)
    first | done | with_reducible rfl
  try simp only [Act.put, List.setIfInBounds_toArray, List.set_cons_zero, List.set_cons_succ]
  refine wpAnyH_take (i := 1) (oi := { dst := some 75, op := _, type := _, pos := _, after := _, guard := _ }) (v := ?_) rfl (by kernel_rfl) (by kernel_rfl) (by kernel_rfl) (fun _ _ _ h => h) (Or.inl ⟨by rfl, ?_⟩) (by assumption) ?_
  rotate_left
  · (intro w hSw; (try dsimp only at hSw); go_simp)
    first | done | with_reducible rfl
  try simp only [Act.put, List.setIfInBounds_toArray, List.set_cons_zero, List.set_cons_succ]
  refine wpAnyH_take (i := 2) (oi := { dst := some 76, op := _, type := _, pos := _, after := _, guard := _ }) (v := ?_) rfl (by kernel_rfl) (by kernel_rfl) (by kernel_rfl) (fun _ _ _ h => h) (Or.inl ⟨by rfl, ?_⟩) (by assumption) ?_
  rotate_left
  · (intro w hSw; (try dsimp only at hSw); go_simp)
    first | done | with_reducible rfl
  try simp only [Act.put, List.setIfInBounds_toArray, List.set_cons_zero, List.set_cons_succ]
  refine wpAnyH_take (i := 4) (oi := { dst := some 78, op := _, type := _, pos := _, after := _, guard := _ }) (v := ?_) rfl (by kernel_rfl) (by kernel_rfl) (by kernel_rfl) (fun _ _ _ h => h) (Or.inl ⟨by rfl, ?_⟩) (by assumption) ?_
  rotate_left
  · (intro w hSw; (try dsimp only at hSw); go_simp)
    first | done | with_reducible rfl
  try simp only [Act.put, List.setIfInBounds_toArray, List.set_cons_zero, List.set_cons_succ]
  refine wpAnyH_take (i := 5) (oi := { dst := some 79, op := _, type := _, pos := _, after := _, guard := _ }) (v := ?_) rfl (by kernel_rfl) (by kernel_rfl) (by kernel_rfl) (fun _ _ _ h => h) (Or.inl ⟨by rfl, ?_⟩) (by assumption) ?_
  rotate_left
  · (intro w hSw; (try dsimp only at hSw); go_simp)
    first | done | with_reducible rfl
  try simp only [Act.put, List.setIfInBounds_toArray, List.set_cons_zero, List.set_cons_succ]
  refine wpAnyH_take (i := 6) (oi := { dst := some 80, op := _, type := _, pos := _, after := _, guard := _ }) (v := ?_) rfl (by kernel_rfl) (by kernel_rfl) (by kernel_rfl) (fun _ _ _ h => h) (Or.inl ⟨by rfl, ?_⟩) (by assumption) ?_
  rotate_left
  · (intro w hSw; (try dsimp only at hSw); go_simp)
    first | done | with_reducible rfl
  try simp only [Act.put, List.setIfInBounds_toArray, List.set_cons_zero, List.set_cons_succ]
  refine wpAnyH_ready (rs := [3, 8, 9]) (by kernel_rfl) (by simp) ?_
  refine AllReadyH.cons (o := { dst := some 77, op := _, type := _, pos := _, after := _, guard := _ }) rfl (fun K hK => ?_) (AllReadyH.cons (o := { dst := some 14, op := _, type := _, pos := _, after := _, guard := _ }) rfl (fun K hK => ?_) (AllReadyH.cons (o := { dst := some 15, op := _, type := _, pos := _, after := _, guard := _ }) rfl (fun K hK => ?_) AllReadyH.nil))
  · go_simp
    go_at_call 20; refine (pscrub_any HB.out.pm HOKM.out HB.out.tab on).mono ?_
    rintro r wq ⟨rfl, hp, hs⟩
    replace HB := Lib.hid (HB.out.callP hp hs)
    clear hp hs
    go_wp2_with fail
    refine hK.out _ _ (HB.out.cell) (fun hH2 => ?_)
    clear hK K hHeld
    rename _ => hHeld
    try simp only [Act.put, List.setIfInBounds_toArray, List.set_cons_zero, List.set_cons_succ]
    refine wpAnyH_ready (rs := [7, 8, 9]) (by kernel_rfl) (by simp) ?_
    refine AllReadyH.cons (o := { dst := some 81, op := _, type := _, pos := _, after := _, guard := _ }) rfl (fun K hK => ?_) (AllReadyH.cons (o := { dst := some 14, op := _, type := _, pos := _, after := _, guard := _ }) rfl (fun K hK => ?_) (AllReadyH.cons (o := { dst := some 15, op := _, type := _, pos := _, after := _, guard := _ }) rfl (fun K hK => ?_) AllReadyH.nil))
    · go_simp
      go_at_call 35; refine (rscrub_any HB.out.rm HOKM.out on).mono ?_
      rintro r wq ⟨rfl, hp, hs⟩
      replace HB := Lib.hid (HB.out.callR hp hs)
      clear hp hs
      go_wp2_with fail
      refine hK.out _ _ (HB.out.cell) (fun hH2 => ?_)
      clear hK K hHeld
      rename _ => hHeld
      try simp only [Act.put, List.setIfInBounds_toArray, List.set_cons_zero, List.set_cons_succ]
      refine wpAnyH_ready (rs := [8, 9]) (by kernel_rfl) (by simp) ?_
      refine AllReadyH.cons (o := { dst := some 14, op := _, type := _, pos := _, after := _, guard := _ }) rfl (fun K hK => ?_) (AllReadyH.cons (o := { dst := some 15, op := _, type := _, pos := _, after := _, guard := _ }) rfl (fun K hK => ?_) AllReadyH.nil)
      · go_simp
        obtain ⟨A8, hA⟩ : ∃ A, wq.heap.size = A := ⟨_, rfl⟩
        replace HB := Lib.hid (HB.out.alloc8)
        rw [hA] at HB
        rw [hA]
        clear hA
        refine hK.out _ _ (HB.out.cell) (fun hH2 => ?_)
        clear hK K hHeld
        rename _ => hHeld
        try simp only [Act.put, List.setIfInBounds_toArray, List.set_cons_zero, List.set_cons_succ]
        generalize World.alloc _ _ = wq at HB hHeld ⊢
        refine wpAnyH_ready (rs := [9]) (by kernel_rfl) (by simp) ?_
        refine AllReadyH.cons (o := { dst := some 15, op := _, type := _, pos := _, after := _, guard := _ }) rfl (fun K hK => ?_) AllReadyH.nil
        go_simp
        obtain ⟨A9, hA⟩ : ∃ A, wq.heap.size = A := ⟨_, rfl⟩
        replace HB := Lib.hid (HB.out.alloc9)
        rw [hA] at HB
        rw [hA]
        clear hA
        refine hK.out _ _ (HB.out.cell) (fun hH2 => ?_)
        clear hK K hHeld
        rename _ => hHeld
        try simp only [Act.put, List.setIfInBounds_toArray, List.set_cons_zero, List.set_cons_succ]
        generalize World.alloc _ _ = wq at HB hHeld ⊢
        have hne := HB.out.two
        have n8 := HB.out.n8 A8 rfl
        have n9 := HB.out.n9 A9 rfl
        have a0 := blk_cell n8.2 0
        have a1 := blk_cell n8.2 1
        have a2 := blk_cell n8.2 2
        have c0 := blk_cell n9.2 0
        have c1 := blk_cell n9.2 1
        have c2 := blk_cell n9.2 2
        have d0 := blk_frozen n8.2 0
        have d1 := blk_frozen n8.2 1
        have d2 := blk_frozen n8.2 2
        have e0 := blk_frozen n9.2 0
        have e1 := blk_frozen n9.2 1
        have e2 := blk_frozen n9.2 2
        simp only [List.getElem?_toArray, List.getElem?_cons_succ, List.getElem?_cons_zero] at a0 a1 a2 c0 c1 c2
        have p8 := n8.1
        have p9 := n9.1
        have HBX := Lib.hid HB.out.cell
        obtain ⟨t1, ht1⟩ : ∃ t, (m.turns on : Int) = t := ⟨_, rfl⟩
        obtain ⟨t2, ht2⟩ : ∃ t, (m.found 1 (m.turns on) : Int) = t := ⟨_, rfl⟩
        obtain ⟨t3, ht3⟩ : ∃ t, (m.found 2 (m.turns on) : Int) = t := ⟨_, rfl⟩
        rw [ht1, ht2, ht3]
        clear ht1 ht2 ht3 n8 n9
        refine wpAnyH_ready (rs := [10]) (by kernel_rfl) (by simp) ?_
        refine AllReadyH.cons (o := { dst := none, op := _, type := _, pos := _, after := _, guard := _ }) rfl (fun K hK => ?_) AllReadyH.nil
        go_simp
        refine hK.out _ _ ?_ (fun hH2 => ?_)
        · exact (set3 p8).trans HBX.out
        clear hK K hHeld
        rename _ => hHeld
        try simp only [Act.put, List.setIfInBounds_toArray, List.set_cons_zero, List.set_cons_succ]
        refine wpAnyH_ready (rs := [11]) (by kernel_rfl) (by simp) ?_
        refine AllReadyH.cons (o := { dst := none, op := _, type := _, pos := _, after := _, guard := _ }) rfl (fun K hK => ?_) AllReadyH.nil
        go_simp
        refine hK.out _ _ ?_ (fun hH2 => ?_)
        · exact (set3 p9).trans ((set3 p8).trans HBX.out)
        clear hK K hHeld
        rename _ => hHeld
        try simp only [Act.put, List.setIfInBounds_toArray, List.set_cons_zero, List.set_cons_succ]
        refine wpAnyH_done (by kernel_rfl) ?_ _
        refine NoPanic.normal ?_
        obtain ⟨Z, hZ⟩ : ∃ Z, Z = (((((wq.setCell ⟨A8, 0, none⟩ (.int .i64 t1)).setCell ⟨A8, 1, none⟩ (.int .i64 t2)).setCell ⟨A8, 2, none⟩ (.int .i64 t3)).setCell ⟨A9, 0, none⟩ (.int .i64 t1)).setCell ⟨A9, 1, none⟩ (.int .i64 t2)).setCell ⟨A9, 2, none⟩ (.int .i64 t3) := ⟨_, rfl⟩
        rw [← hZ]
        have HFIN := Lib.hid (HB.out.fin _ _ _ Z hZ)
        clear hZ a0 a1 a2 c0 c1 c2 d0 d1 d2 e0 e1 e2 hHeld
        have a0 := blk_cell HFIN.out.2.2.1 0
        have a1 := blk_cell HFIN.out.2.2.1 1
        have a2 := blk_cell HFIN.out.2.2.1 2
        have c0 := blk_cell HFIN.out.2.2.2 0
        have c1 := blk_cell HFIN.out.2.2.2 1
        have c2 := blk_cell HFIN.out.2.2.2 2
        simp only [List.getElem?_toArray, List.getElem?_cons_succ, List.getElem?_cons_zero] at a0 a1 a2 c0 c1 c2
        have OK9 : Hid ((m.scrub on).ok) := Lib.hid (scrub_ok HOKM.out on)
        obtain ⟨g9, q9, hv9, _, _, _⟩ := HFIN.out.1.rm.shape OK9.out
        have x0 := blk_cell HFIN.out.1.rm.blk 0
        have x2 := blk_cell HFIN.out.1.rm.blk 2
        have x4 := blk_cell HFIN.out.1.rm.blk 4
        simp only [rcs, List.getElem?_toArray, List.getElem?_cons_succ, List.getElem?_cons_zero] at x0 x2 x4
        rw [hv9] at x0
        have ON := Lib.hid (fun n => pon_any (HFIN.out.1.pm.drewN n))
        have WR := Lib.hid (fun n => pwrites_any (HFIN.out.1.pm.drewN n))
        have LN := Lib.hid (fun n => plen_any (HFIN.out.1.pm.drewN n))
        have hse := not_beq_self (m.scrub on).off
        clear hv9 hne p8 p9
        go_wp2_with fail
        go_quiet ((first | (go_at_call 23; exact Calls.quiet_of_same (ON.out _)) | (go_at_call 21; exact Calls.quiet_of_same (WR.out _)) | (go_at_call 31; exact Calls.quiet_of_same (LN.out _))))
        go_wp2_with fail
        refine bodyPost_ret (v := .tuple #[.pointer (some ⟨bm, 0, none⟩), .pointer (some ⟨br, 0, none⟩), .bool true]) (by simp [results, Tryd.results14, go_sem]) rfl ?_
        exact ⟨bm, _, br, _, rfl, ⟨HFIN.out.1.pm.drewN _, HFIN.out.1.rm.drewN _, HFIN.out.1.apart⟩, HFIN.out.2.1.drewN _, fun k hk => .inl hk, fun k hk => .inl hk⟩
      · go_simp
        obtain ⟨A9, hA⟩ : ∃ A, wq.heap.size = A := ⟨_, rfl⟩
        replace HB := Lib.hid (HB.out.alloc9)
        rw [hA] at HB
        rw [hA]
        clear hA
        refine hK.out _ _ (HB.out.cell) (fun hH2 => ?_)
        clear hK K hHeld
        rename _ => hHeld
        try simp only [Act.put, List.setIfInBounds_toArray, List.set_cons_zero, List.set_cons_succ]
        generalize World.alloc _ _ = wq at HB hHeld ⊢
        refine wpAnyH_ready (rs := [8]) (by kernel_rfl) (by simp) ?_
        refine AllReadyH.cons (o := { dst := some 14, op := _, type := _, pos := _, after := _, guard := _ }) rfl (fun K hK => ?_) AllReadyH.nil
        go_simp
        obtain ⟨A8, hA⟩ : ∃ A, wq.heap.size = A := ⟨_, rfl⟩
        replace HB := Lib.hid (HB.out.alloc8)
        rw [hA] at HB
        rw [hA]
        clear hA
        refine hK.out _ _ (HB.out.cell) (fun hH2 => ?_)
        clear hK K hHeld
        rename _ => hHeld
        try simp only [Act.put, List.setIfInBounds_toArray, List.set_cons_zero, List.set_cons_succ]
        generalize World.alloc _ _ = wq at HB hHeld ⊢
        have hne := HB.out.two
        have n8 := HB.out.n8 A8 rfl
        have n9 := HB.out.n9 A9 rfl
        have a0 := blk_cell n8.2 0
        have a1 := blk_cell n8.2 1
        have a2 := blk_cell n8.2 2
        have c0 := blk_cell n9.2 0
        have c1 := blk_cell n9.2 1
        have c2 := blk_cell n9.2 2
        have d0 := blk_frozen n8.2 0
        have d1 := blk_frozen n8.2 1
        have d2 := blk_frozen n8.2 2
        have e0 := blk_frozen n9.2 0
        have e1 := blk_frozen n9.2 1
        have e2 := blk_frozen n9.2 2
        simp only [List.getElem?_toArray, List.getElem?_cons_succ, List.getElem?_cons_zero] at a0 a1 a2 c0 c1 c2
        have p8 := n8.1
        have p9 := n9.1
        have HBX := Lib.hid HB.out.cell
        obtain ⟨t1, ht1⟩ : ∃ t, (m.turns on : Int) = t := ⟨_, rfl⟩
        obtain ⟨t2, ht2⟩ : ∃ t, (m.found 1 (m.turns on) : Int) = t := ⟨_, rfl⟩
        obtain ⟨t3, ht3⟩ : ∃ t, (m.found 2 (m.turns on) : Int) = t := ⟨_, rfl⟩
        rw [ht1, ht2, ht3]
        clear ht1 ht2 ht3 n8 n9
        refine wpAnyH_ready (rs := [10]) (by kernel_rfl) (by simp) ?_
        refine AllReadyH.cons (o := { dst := none, op := _, type := _, pos := _, after := _, guard := _ }) rfl (fun K hK => ?_) AllReadyH.nil
        go_simp
        refine hK.out _ _ ?_ (fun hH2 => ?_)
        · exact (set3 p8).trans HBX.out
        clear hK K hHeld
        rename _ => hHeld
        try simp only [Act.put, List.setIfInBounds_toArray, List.set_cons_zero, List.set_cons_succ]
        refine wpAnyH_ready (rs := [11]) (by kernel_rfl) (by simp) ?_
        refine AllReadyH.cons (o := { dst := none, op := _, type := _, pos := _, after := _, guard := _ }) rfl (fun K hK => ?_) AllReadyH.nil
        go_simp
        refine hK.out _ _ ?_ (fun hH2 => ?_)
        · exact (set3 p9).trans ((set3 p8).trans HBX.out)
        clear hK K hHeld
        rename _ => hHeld
        try simp only [Act.put, List.setIfInBounds_toArray, List.set_cons_zero, List.set_cons_succ]
        refine wpAnyH_done (by kernel_rfl) ?_ _
        refine NoPanic.normal ?_
        obtain ⟨Z, hZ⟩ : ∃ Z, Z = (((((wq.setCell ⟨A8, 0, none⟩ (.int .i64 t1)).setCell ⟨A8, 1, none⟩ (.int .i64 t2)).setCell ⟨A8, 2, none⟩ (.int .i64 t3)).setCell ⟨A9, 0, none⟩ (.int .i64 t1)).setCell ⟨A9, 1, none⟩ (.int .i64 t2)).setCell ⟨A9, 2, none⟩ (.int .i64 t3) := ⟨_, rfl⟩
        rw [← hZ]
        have HFIN := Lib.hid (HB.out.fin _ _ _ Z hZ)
        clear hZ a0 a1 a2 c0 c1 c2 d0 d1 d2 e0 e1 e2 hHeld
        have a0 := blk_cell HFIN.out.2.2.1 0
        have a1 := blk_cell HFIN.out.2.2.1 1
        have a2 := blk_cell HFIN.out.2.2.1 2
        have c0 := blk_cell HFIN.out.2.2.2 0
        have c1 := blk_cell HFIN.out.2.2.2 1
        have c2 := blk_cell HFIN.out.2.2.2 2
        simp only [List.getElem?_toArray, List.getElem?_cons_succ, List.getElem?_cons_zero] at a0 a1 a2 c0 c1 c2
        have OK9 : Hid ((m.scrub on).ok) := Lib.hid (scrub_ok HOKM.out on)
        obtain ⟨g9, q9, hv9, _, _, _⟩ := HFIN.out.1.rm.shape OK9.out
        have x0 := blk_cell HFIN.out.1.rm.blk 0
        have x2 := blk_cell HFIN.out.1.rm.blk 2
        have x4 := blk_cell HFIN.out.1.rm.blk 4
        simp only [rcs, List.getElem?_toArray, List.getElem?_cons_succ, List.getElem?_cons_zero] at x0 x2 x4
        rw [hv9] at x0
        have ON := Lib.hid (fun n => pon_any (HFIN.out.1.pm.drewN n))
        have WR := Lib.hid (fun n => pwrites_any (HFIN.out.1.pm.drewN n))
        have LN := Lib.hid (fun n => plen_any (HFIN.out.1.pm.drewN n))
        have hse := not_beq_self (m.scrub on).off
        clear hv9 hne p8 p9
        go_wp2_with fail
        go_quiet ((first | (go_at_call 23; exact Calls.quiet_of_same (ON.out _)) | (go_at_call 21; exact Calls.quiet_of_same (WR.out _)) | (go_at_call 31; exact Calls.quiet_of_same (LN.out _))))
        go_wp2_with fail
        refine bodyPost_ret (v := .tuple #[.pointer (some ⟨bm, 0, none⟩), .pointer (some ⟨br, 0, none⟩), .bool true]) (by simp [results, Tryd.results14, go_sem]) rfl ?_
        exact ⟨bm, _, br, _, rfl, ⟨HFIN.out.1.pm.drewN _, HFIN.out.1.rm.drewN _, HFIN.out.1.apart⟩, HFIN.out.2.1.drewN _, fun k hk => .inl hk, fun k hk => .inl hk⟩
    · go_simp
      obtain ⟨A8, hA⟩ : ∃ A, wq.heap.size = A := ⟨_, rfl⟩
      replace HB := Lib.hid (HB.out.alloc8)
      rw [hA] at HB
      rw [hA]
      clear hA
      refine hK.out _ _ (HB.out.cell) (fun hH2 => ?_)
      clear hK K hHeld
      rename _ => hHeld
      try simp only [Act.put, List.setIfInBounds_toArray, List.set_cons_zero, List.set_cons_succ]
      generalize World.alloc _ _ = wq at HB hHeld ⊢
      refine wpAnyH_ready (rs := [7, 9]) (by kernel_rfl) (by simp) ?_
      refine AllReadyH.cons (o := { dst := some 81, op := _, type := _, pos := _, after := _, guard := _ }) rfl (fun K hK => ?_) (AllReadyH.cons (o := { dst := some 15, op := _, type := _, pos := _, after := _, guard := _ }) rfl (fun K hK => ?_) AllReadyH.nil)
      · go_simp
        go_at_call 35; refine (rscrub_any HB.out.rm HOKM.out on).mono ?_
        rintro r wq ⟨rfl, hp, hs⟩
        replace HB := Lib.hid (HB.out.callR hp hs)
        clear hp hs
        go_wp2_with fail
        refine hK.out _ _ (HB.out.cell) (fun hH2 => ?_)
        clear hK K hHeld
        rename _ => hHeld
        try simp only [Act.put, List.setIfInBounds_toArray, List.set_cons_zero, List.set_cons_succ]
        refine wpAnyH_ready (rs := [9]) (by kernel_rfl) (by simp) ?_
        refine AllReadyH.cons (o := { dst := some 15, op := _, type := _, pos := _, after := _, guard := _ }) rfl (fun K hK => ?_) AllReadyH.nil
        go_simp
        obtain ⟨A9, hA⟩ : ∃ A, wq.heap.size = A := ⟨_, rfl⟩
        replace HB := Lib.hid (HB.out.alloc9)
        rw [hA] at HB
        rw [hA]
        clear hA
        refine hK.out _ _ (HB.out.cell) (fun hH2 => ?_)
        clear hK K hHeld
        rename _ => hHeld
        try simp only [Act.put, List.setIfInBounds_toArray, List.set_cons_zero, List.set_cons_succ]
        generalize World.alloc _ _ = wq at HB hHeld ⊢
        have hne := HB.out.two
        have n8 := HB.out.n8 A8 rfl
        have n9 := HB.out.n9 A9 rfl
        have a0 := blk_cell n8.2 0
        have a1 := blk_cell n8.2 1
        have a2 := blk_cell n8.2 2
        have c0 := blk_cell n9.2 0
        have c1 := blk_cell n9.2 1
        have c2 := blk_cell n9.2 2
        have d0 := blk_frozen n8.2 0
        have d1 := blk_frozen n8.2 1
        have d2 := blk_frozen n8.2 2
        have e0 := blk_frozen n9.2 0
        have e1 := blk_frozen n9.2 1
        have e2 := blk_frozen n9.2 2
        simp only [List.getElem?_toArray, List.getElem?_cons_succ, List.getElem?_cons_zero] at a0 a1 a2 c0 c1 c2
        have p8 := n8.1
        have p9 := n9.1
        have HBX := Lib.hid HB.out.cell
        obtain ⟨t1, ht1⟩ : ∃ t, (m.turns on : Int) = t := ⟨_, rfl⟩
        obtain ⟨t2, ht2⟩ : ∃ t, (m.found 1 (m.turns on) : Int) = t := ⟨_, rfl⟩
        obtain ⟨t3, ht3⟩ : ∃ t, (m.found 2 (m.turns on) : Int) = t := ⟨_, rfl⟩
        rw [ht1, ht2, ht3]
        clear ht1 ht2 ht3 n8 n9
        refine wpAnyH_ready (rs := [10]) (by kernel_rfl) (by simp) ?_
        refine AllReadyH.cons (o := { dst := none, op := _, type := _, pos := _, after := _, guard := _ }) rfl (fun K hK => ?_) AllReadyH.nil
        go_simp
        refine hK.out _ _ ?_ (fun hH2 => ?_)
        · exact (set3 p8).trans HBX.out
        clear hK K hHeld
        rename _ => hHeld
        try simp only [Act.put, List.setIfInBounds_toArray, List.set_cons_zero, List.set_cons_succ]
        refine wpAnyH_ready (rs := [11]) (by kernel_rfl) (by simp) ?_
        refine AllReadyH.cons (o := { dst := none, op := _, type := _, pos := _, after := _, guard := _ }) rfl (fun K hK => ?_) AllReadyH.nil
        go_simp
        refine hK.out _ _ ?_ (fun hH2 => ?_)
        · exact (set3 p9).trans ((set3 p8).trans HBX.out)
        clear hK K hHeld
        rename _ => hHeld
        try simp only [Act.put, List.setIfInBounds_toArray, List.set_cons_zero, List.set_cons_succ]
        refine wpAnyH_done (by kernel_rfl) ?_ _
        refine NoPanic.normal ?_
        obtain ⟨Z, hZ⟩ : ∃ Z, Z = (((((wq.setCell ⟨A8, 0, none⟩ (.int .i64 t1)).setCell ⟨A8, 1, none⟩ (.int .i64 t2)).setCell ⟨A8, 2, none⟩ (.int .i64 t3)).setCell ⟨A9, 0, none⟩ (.int .i64 t1)).setCell ⟨A9, 1, none⟩ (.int .i64 t2)).setCell ⟨A9, 2, none⟩ (.int .i64 t3) := ⟨_, rfl⟩
        rw [← hZ]
        have HFIN := Lib.hid (HB.out.fin _ _ _ Z hZ)
        clear hZ a0 a1 a2 c0 c1 c2 d0 d1 d2 e0 e1 e2 hHeld
        have a0 := blk_cell HFIN.out.2.2.1 0
        have a1 := blk_cell HFIN.out.2.2.1 1
        have a2 := blk_cell HFIN.out.2.2.1 2
        have c0 := blk_cell HFIN.out.2.2.2 0
        have c1 := blk_cell HFIN.out.2.2.2 1
        have c2 := blk_cell HFIN.out.2.2.2 2
        simp only [List.getElem?_toArray, List.getElem?_cons_succ, List.getElem?_cons_zero] at a0 a1 a2 c0 c1 c2
        have OK9 : Hid ((m.scrub on).ok) := Lib.hid (scrub_ok HOKM.out on)
        obtain ⟨g9, q9, hv9, _, _, _⟩ := HFIN.out.1.rm.shape OK9.out
        have x0 := blk_cell HFIN.out.1.rm.blk 0
        have x2 := blk_cell HFIN.out.1.rm.blk 2
        have x4 := blk_cell HFIN.out.1.rm.blk 4
        simp only [rcs, List.getElem?_toArray, List.getElem?_cons_succ, List.getElem?_cons_zero] at x0 x2 x4
        rw [hv9] at x0
        have ON := Lib.hid (fun n => pon_any (HFIN.out.1.pm.drewN n))
        have WR := Lib.hid (fun n => pwrites_any (HFIN.out.1.pm.drewN n))
        have LN := Lib.hid (fun n => plen_any (HFIN.out.1.pm.drewN n))
        have hse := not_beq_self (m.scrub on).off
        clear hv9 hne p8 p9
        go_wp2_with fail
        go_quiet ((first | (go_at_call 23; exact Calls.quiet_of_same (ON.out _)) | (go_at_call 21; exact Calls.quiet_of_same (WR.out _)) | (go_at_call 31; exact Calls.quiet_of_same (LN.out _))))
        go_wp2_with fail
        refine bodyPost_ret (v := .tuple #[.pointer (some ⟨bm, 0, none⟩), .pointer (some ⟨br, 0, none⟩), .bool true]) (by simp [results, Tryd.results14, go_sem]) rfl ?_
        exact ⟨bm, _, br, _, rfl, ⟨HFIN.out.1.pm.drewN _, HFIN.out.1.rm.drewN _, HFIN.out.1.apart⟩, HFIN.out.2.1.drewN _, fun k hk => .inl hk, fun k hk => .inl hk⟩
      · go_simp
        obtain ⟨A9, hA⟩ : ∃ A, wq.heap.size = A := ⟨_, rfl⟩
        replace HB := Lib.hid (HB.out.alloc9)
        rw [hA] at HB
        rw [hA]
        clear hA
        refine hK.out _ _ (HB.out.cell) (fun hH2 => ?_)
        clear hK K hHeld
        rename _ => hHeld
        try simp only [Act.put, List.setIfInBounds_toArray, List.set_cons_zero, List.set_cons_succ]
        generalize World.alloc _ _ = wq at HB hHeld ⊢
        refine wpAnyH_ready (rs := [7]) (by kernel_rfl) (by simp) ?_
        refine AllReadyH.cons (o := { dst := some 81, op := _, type := _, pos := _, after := _, guard := _ }) rfl (fun K hK => ?_) AllReadyH.nil
        go_simp
        go_at_call 35; refine (rscrub_any HB.out.rm HOKM.out on).mono ?_
        rintro r wq ⟨rfl, hp, hs⟩
        replace HB := Lib.hid (HB.out.callR hp hs)
        clear hp hs
        go_wp2_with fail
        refine hK.out _ _ (HB.out.cell) (fun hH2 => ?_)
        clear hK K hHeld
        rename _ => hHeld
        try simp only [Act.put, List.setIfInBounds_toArray, List.set_cons_zero, List.set_cons_succ]
        have hne := HB.out.two
        have n8 := HB.out.n8 A8 rfl
        have n9 := HB.out.n9 A9 rfl
        have a0 := blk_cell n8.2 0
        have a1 := blk_cell n8.2 1
        have a2 := blk_cell n8.2 2
        have c0 := blk_cell n9.2 0
        have c1 := blk_cell n9.2 1
        have c2 := blk_cell n9.2 2
        have d0 := blk_frozen n8.2 0
        have d1 := blk_frozen n8.2 1
        have d2 := blk_frozen n8.2 2
        have e0 := blk_frozen n9.2 0
        have e1 := blk_frozen n9.2 1
        have e2 := blk_frozen n9.2 2
        simp only [List.getElem?_toArray, List.getElem?_cons_succ, List.getElem?_cons_zero] at a0 a1 a2 c0 c1 c2
        have p8 := n8.1
        have p9 := n9.1
        have HBX := Lib.hid HB.out.cell
        obtain ⟨t1, ht1⟩ : ∃ t, (m.turns on : Int) = t := ⟨_, rfl⟩
        obtain ⟨t2, ht2⟩ : ∃ t, (m.found 1 (m.turns on) : Int) = t := ⟨_, rfl⟩
        obtain ⟨t3, ht3⟩ : ∃ t, (m.found 2 (m.turns on) : Int) = t := ⟨_, rfl⟩
        rw [ht1, ht2, ht3]
        clear ht1 ht2 ht3 n8 n9
        refine wpAnyH_ready (rs := [10]) (by kernel_rfl) (by simp) ?_
        refine AllReadyH.cons (o := { dst := none, op := _, type := _, pos := _, after := _, guard := _ }) rfl (fun K hK => ?_) AllReadyH.nil
        go_simp
        refine hK.out _ _ ?_ (fun hH2 => ?_)
        · exact (set3 p8).trans HBX.out
        clear hK K hHeld
        rename _ => hHeld
        try simp only [Act.put, List.setIfInBounds_toArray, List.set_cons_zero, List.set_cons_succ]
        refine wpAnyH_ready (rs := [11]) (by kernel_rfl) (by simp) ?_
        refine AllReadyH.cons (o := { dst := none, op := _, type := _, pos := _, after := _, guard := _ }) rfl (fun K hK => ?_) AllReadyH.nil
        go_simp
        refine hK.out _ _ ?_ (fun hH2 => ?_)
        · exact (set3 p9).trans ((set3 p8).trans HBX.out)
        clear hK K hHeld
        rename _ => hHeld
        try simp only [Act.put, List.setIfInBounds_toArray, List.set_cons_zero, List.set_cons_succ]
        refine wpAnyH_done (by kernel_rfl) ?_ _
        refine NoPanic.normal ?_
        obtain ⟨Z, hZ⟩ : ∃ Z, Z = (((((wq.setCell ⟨A8, 0, none⟩ (.int .i64 t1)).setCell ⟨A8, 1, none⟩ (.int .i64 t2)).setCell ⟨A8, 2, none⟩ (.int .i64 t3)).setCell ⟨A9, 0, none⟩ (.int .i64 t1)).setCell ⟨A9, 1, none⟩ (.int .i64 t2)).setCell ⟨A9, 2, none⟩ (.int .i64 t3) := ⟨_, rfl⟩
        rw [← hZ]
        have HFIN := Lib.hid (HB.out.fin _ _ _ Z hZ)
        clear hZ a0 a1 a2 c0 c1 c2 d0 d1 d2 e0 e1 e2 hHeld
        have a0 := blk_cell HFIN.out.2.2.1 0
        have a1 := blk_cell HFIN.out.2.2.1 1
        have a2 := blk_cell HFIN.out.2.2.1 2
        have c0 := blk_cell HFIN.out.2.2.2 0
        have c1 := blk_cell HFIN.out.2.2.2 1
        have c2 := blk_cell HFIN.out.2.2.2 2
        simp only [List.getElem?_toArray, List.getElem?_cons_succ, List.getElem?_cons_zero] at a0 a1 a2 c0 c1 c2
        have OK9 : Hid ((m.scrub on).ok) := Lib.hid (scrub_ok HOKM.out on)
        obtain ⟨g9, q9, hv9, _, _, _⟩ := HFIN.out.1.rm.shape OK9.out
        have x0 := blk_cell HFIN.out.1.rm.blk 0
        have x2 := blk_cell HFIN.out.1.rm.blk 2
        have x4 := blk_cell HFIN.out.1.rm.blk 4
        simp only [rcs, List.getElem?_toArray, List.getElem?_cons_succ, List.getElem?_cons_zero] at x0 x2 x4
        rw [hv9] at x0
        have ON := Lib.hid (fun n => pon_any (HFIN.out.1.pm.drewN n))
        have WR := Lib.hid (fun n => pwrites_any (HFIN.out.1.pm.drewN n))
        have LN := Lib.hid (fun n => plen_any (HFIN.out.1.pm.drewN n))
        have hse := not_beq_self (m.scrub on).off
        clear hv9 hne p8 p9
        go_wp2_with fail
        go_quiet ((first | (go_at_call 23; exact Calls.quiet_of_same (ON.out _)) | (go_at_call 21; exact Calls.quiet_of_same (WR.out _)) | (go_at_call 31; exact Calls.quiet_of_same (LN.out _))))
        go_wp2_with fail
        refine bodyPost_ret (v := .tuple #[.pointer (some ⟨bm, 0, none⟩), .pointer (some ⟨br, 0, none⟩), .bool true]) (by simp [results, Tryd.results14, go_sem]) rfl ?_
        exact ⟨bm, _, br, _, rfl, ⟨HFIN.out.1.pm.drewN _, HFIN.out.1.rm.drewN _, HFIN.out.1.apart⟩, HFIN.out.2.1.drewN _, fun k hk => .inl hk, fun k hk => .inl hk⟩
    · go_simp
      obtain ⟨A9, hA⟩ : ∃ A, wq.heap.size = A := ⟨_, rfl⟩
      replace HB := Lib.hid (HB.out.alloc9)
      rw [hA] at HB
      rw [hA]
      clear hA
      refine hK.out _ _ (HB.out.cell) (fun hH2 => ?_)
      clear hK K hHeld
      rename _ => hHeld
      try simp only [Act.put, List.setIfInBounds_toArray, List.set_cons_zero, List.set_cons_succ]
      generalize World.alloc _ _ = wq at HB hHeld ⊢
      refine wpAnyH_ready (rs := [7, 8]) (by kernel_rfl) (by simp) ?_
      refine AllReadyH.cons (o := { dst := some 81, op := _, type := _, pos := _, after := _, guard := _ }) rfl (fun K hK => ?_) (AllReadyH.cons (o := { dst := some 14, op := _, type := _, pos := _, after := _, guard := _ }) rfl (fun K hK => ?_) AllReadyH.nil)
      · go_simp
        go_at_call 35; refine (rscrub_any HB.out.rm HOKM.out on).mono ?_
        rintro r wq ⟨rfl, hp, hs⟩
        replace HB := Lib.hid (HB.out.callR hp hs)
        clear hp hs
        go_wp2_with fail
        refine hK.out _ _ (HB.out.cell) (fun hH2 => ?_)
        clear hK K hHeld
        rename _ => hHeld
        try simp only [Act.put, List.setIfInBounds_toArray, List.set_cons_zero, List.set_cons_succ]
        refine wpAnyH_ready (rs := [8]) (by kernel_rfl) (by simp) ?_
        refine AllReadyH.cons (o := { dst := some 14, op := _, type := _, pos := _, after := _, guard := _ }) rfl (fun K hK => ?_) AllReadyH.nil
        go_simp
        obtain ⟨A8, hA⟩ : ∃ A, wq.heap.size = A := ⟨_, rfl⟩
        replace HB := Lib.hid (HB.out.alloc8)
        rw [hA] at HB
        rw [hA]
        clear hA
        refine hK.out _ _ (HB.out.cell) (fun hH2 => ?_)
        clear hK K hHeld
        rename _ => hHeld
        try simp only [Act.put, List.setIfInBounds_toArray, List.set_cons_zero, List.set_cons_succ]
        generalize World.alloc _ _ = wq at HB hHeld ⊢
        have hne := HB.out.two
        have n8 := HB.out.n8 A8 rfl
        have n9 := HB.out.n9 A9 rfl
        have a0 := blk_cell n8.2 0
        have a1 := blk_cell n8.2 1
        have a2 := blk_cell n8.2 2
        have c0 := blk_cell n9.2 0
        have c1 := blk_cell n9.2 1
        have c2 := blk_cell n9.2 2
        have d0 := blk_frozen n8.2 0
        have d1 := blk_frozen n8.2 1
        have d2 := blk_frozen n8.2 2
        have e0 := blk_frozen n9.2 0
        have e1 := blk_frozen n9.2 1
        have e2 := blk_frozen n9.2 2
        simp only [List.getElem?_toArray, List.getElem?_cons_succ, List.getElem?_cons_zero] at a0 a1 a2 c0 c1 c2
        have p8 := n8.1
        have p9 := n9.1
        have HBX := Lib.hid HB.out.cell
        obtain ⟨t1, ht1⟩ : ∃ t, (m.turns on : Int) = t := ⟨_, rfl⟩
        obtain ⟨t2, ht2⟩ : ∃ t, (m.found 1 (m.turns on) : Int) = t := ⟨_, rfl⟩
        obtain ⟨t3, ht3⟩ : ∃ t, (m.found 2 (m.turns on) : Int) = t := ⟨_, rfl⟩
        rw [ht1, ht2, ht3]
        clear ht1 ht2 ht3 n8 n9
        refine wpAnyH_ready (rs := [10]) (by kernel_rfl) (by simp) ?_
        refine AllReadyH.cons (o := { dst := none, op := _, type := _, pos := _, after := _, guard := _ }) rfl (fun K hK => ?_) AllReadyH.nil
        go_simp
        refine hK.out _ _ ?_ (fun hH2 => ?_)
        · exact (set3 p8).trans HBX.out
        clear hK K hHeld
        rename _ => hHeld
        try simp only [Act.put, List.setIfInBounds_toArray, List.set_cons_zero, List.set_cons_succ]
        refine wpAnyH_ready (rs := [11]) (by kernel_rfl) (by simp) ?_
        refine AllReadyH.cons (o := { dst := none, op := _, type := _, pos := _, after := _, guard := _ }) rfl (fun K hK => ?_) AllReadyH.nil
        go_simp
        refine hK.out _ _ ?_ (fun hH2 => ?_)
        · exact (set3 p9).trans ((set3 p8).trans HBX.out)
        clear hK K hHeld
        rename _ => hHeld
        try simp only [Act.put, List.setIfInBounds_toArray, List.set_cons_zero, List.set_cons_succ]
        refine wpAnyH_done (by kernel_rfl) ?_ _
        refine NoPanic.normal ?_
        obtain ⟨Z, hZ⟩ : ∃ Z, Z = (((((wq.setCell ⟨A8, 0, none⟩ (.int .i64 t1)).setCell ⟨A8, 1, none⟩ (.int .i64 t2)).setCell ⟨A8, 2, none⟩ (.int .i64 t3)).setCell ⟨A9, 0, none⟩ (.int .i64 t1)).setCell ⟨A9, 1, none⟩ (.int .i64 t2)).setCell ⟨A9, 2, none⟩ (.int .i64 t3) := ⟨_, rfl⟩
        rw [← hZ]
        have HFIN := Lib.hid (HB.out.fin _ _ _ Z hZ)
        clear hZ a0 a1 a2 c0 c1 c2 d0 d1 d2 e0 e1 e2 hHeld
        have a0 := blk_cell HFIN.out.2.2.1 0
        have a1 := blk_cell HFIN.out.2.2.1 1
        have a2 := blk_cell HFIN.out.2.2.1 2
        have c0 := blk_cell HFIN.out.2.2.2 0
        have c1 := blk_cell HFIN.out.2.2.2 1
        have c2 := blk_cell HFIN.out.2.2.2 2
        simp only [List.getElem?_toArray, List.getElem?_cons_succ, List.getElem?_cons_zero] at a0 a1 a2 c0 c1 c2
        have OK9 : Hid ((m.scrub on).ok) := Lib.hid (scrub_ok HOKM.out on)
        obtain ⟨g9, q9, hv9, _, _, _⟩ := HFIN.out.1.rm.shape OK9.out
        have x0 := blk_cell HFIN.out.1.rm.blk 0
        have x2 := blk_cell HFIN.out.1.rm.blk 2
        have x4 := blk_cell HFIN.out.1.rm.blk 4
        simp only [rcs, List.getElem?_toArray, List.getElem?_cons_succ, List.getElem?_cons_zero] at x0 x2 x4
        rw [hv9] at x0
        have ON := Lib.hid (fun n => pon_any (HFIN.out.1.pm.drewN n))
        have WR := Lib.hid (fun n => pwrites_any (HFIN.out.1.pm.drewN n))
        have LN := Lib.hid (fun n => plen_any (HFIN.out.1.pm.drewN n))
        have hse := not_beq_self (m.scrub on).off
        clear hv9 hne p8 p9
        go_wp2_with fail
        go_quiet ((first | (go_at_call 23; exact Calls.quiet_of_same (ON.out _)) | (go_at_call 21; exact Calls.quiet_of_same (WR.out _)) | (go_at_call 31; exact Calls.quiet_of_same (LN.out _))))
        go_wp2_with fail
        refine bodyPost_ret (v := .tuple #[.pointer (some ⟨bm, 0, none⟩), .pointer (some ⟨br, 0, none⟩), .bool true]) (by simp [results, Tryd.results14, go_sem]) rfl ?_
        exact ⟨bm, _, br, _, rfl, ⟨HFIN.out.1.pm.drewN _, HFIN.out.1.rm.drewN _, HFIN.out.1.apart⟩, HFIN.out.2.1.drewN _, fun k hk => .inl hk, fun k hk => .inl hk⟩
      · go_simp
        obtain ⟨A8, hA⟩ : ∃ A, wq.heap.size = A := ⟨_, rfl⟩
        replace HB := Lib.hid (HB.out.alloc8)
        rw [hA] at HB
        rw [hA]
        clear hA
        refine hK.out _ _ (HB.out.cell) (fun hH2 => ?_)
        clear hK K hHeld
        rename _ => hHeld
        try simp only [Act.put, List.setIfInBounds_toArray, List.set_cons_zero, List.set_cons_succ]
        generalize World.alloc _ _ = wq at HB hHeld ⊢
        refine wpAnyH_ready (rs := [7]) (by kernel_rfl) (by simp) ?_
        refine AllReadyH.cons (o := { dst := some 81, op := _, type := _, pos := _, after := _, guard := _ }) rfl (fun K hK => ?_) AllReadyH.nil
        go_simp
        go_at_call 35; refine (rscrub_any HB.out.rm HOKM.out on).mono ?_
        rintro r wq ⟨rfl, hp, hs⟩
        replace HB := Lib.hid (HB.out.callR hp hs)
        clear hp hs
        go_wp2_with fail
        refine hK.out _ _ (HB.out.cell) (fun hH2 => ?_)
        clear hK K hHeld
        rename _ => hHeld
        try simp only [Act.put, List.setIfInBounds_toArray, List.set_cons_zero, List.set_cons_succ]
        have hne := HB.out.two
        have n8 := HB.out.n8 A8 rfl
        have n9 := HB.out.n9 A9 rfl
        have a0 := blk_cell n8.2 0
        have a1 := blk_cell n8.2 1
        have a2 := blk_cell n8.2 2
        have c0 := blk_cell n9.2 0
        have c1 := blk_cell n9.2 1
        have c2 := blk_cell n9.2 2
        have d0 := blk_frozen n8.2 0
        have d1 := blk_frozen n8.2 1
        have d2 := blk_frozen n8.2 2
        have e0 := blk_frozen n9.2 0
        have e1 := blk_frozen n9.2 1
        have e2 := blk_frozen n9.2 2
        simp only [List.getElem?_toArray, List.getElem?_cons_succ, List.getElem?_cons_zero] at a0 a1 a2 c0 c1 c2
        have p8 := n8.1
        have p9 := n9.1
        have HBX := Lib.hid HB.out.cell
        obtain ⟨t1, ht1⟩ : ∃ t, (m.turns on : Int) = t := ⟨_, rfl⟩
        obtain ⟨t2, ht2⟩ : ∃ t, (m.found 1 (m.turns on) : Int) = t := ⟨_, rfl⟩
        obtain ⟨t3, ht3⟩ : ∃ t, (m.found 2 (m.turns on) : Int) = t := ⟨_, rfl⟩
        rw [ht1, ht2, ht3]
        clear ht1 ht2 ht3 n8 n9
        refine wpAnyH_ready (rs := [10]) (by kernel_rfl) (by simp) ?_
        refine AllReadyH.cons (o := { dst := none, op := _, type := _, pos := _, after := _, guard := _ }) rfl (fun K hK => ?_) AllReadyH.nil
        go_simp
        refine hK.out _ _ ?_ (fun hH2 => ?_)
        · exact (set3 p8).trans HBX.out
        clear hK K hHeld
        rename _ => hHeld
        try simp only [Act.put, List.setIfInBounds_toArray, List.set_cons_zero, List.set_cons_succ]
        refine wpAnyH_ready (rs := [11]) (by kernel_rfl) (by simp) ?_
        refine AllReadyH.cons (o := { dst := none, op := _, type := _, pos := _, after := _, guard := _ }) rfl (fun K hK => ?_) AllReadyH.nil
        go_simp
        refine hK.out _ _ ?_ (fun hH2 => ?_)
        · exact (set3 p9).trans ((set3 p8).trans HBX.out)
        clear hK K hHeld
        rename _ => hHeld
        try simp only [Act.put, List.setIfInBounds_toArray, List.set_cons_zero, List.set_cons_succ]
        refine wpAnyH_done (by kernel_rfl) ?_ _
        refine NoPanic.normal ?_
        obtain ⟨Z, hZ⟩ : ∃ Z, Z = (((((wq.setCell ⟨A8, 0, none⟩ (.int .i64 t1)).setCell ⟨A8, 1, none⟩ (.int .i64 t2)).setCell ⟨A8, 2, none⟩ (.int .i64 t3)).setCell ⟨A9, 0, none⟩ (.int .i64 t1)).setCell ⟨A9, 1, none⟩ (.int .i64 t2)).setCell ⟨A9, 2, none⟩ (.int .i64 t3) := ⟨_, rfl⟩
        rw [← hZ]
        have HFIN := Lib.hid (HB.out.fin _ _ _ Z hZ)
        clear hZ a0 a1 a2 c0 c1 c2 d0 d1 d2 e0 e1 e2 hHeld
        have a0 := blk_cell HFIN.out.2.2.1 0
        have a1 := blk_cell HFIN.out.2.2.1 1
        have a2 := blk_cell HFIN.out.2.2.1 2
        have c0 := blk_cell HFIN.out.2.2.2 0
        have c1 := blk_cell HFIN.out.2.2.2 1
        have c2 := blk_cell HFIN.out.2.2.2 2
        simp only [List.getElem?_toArray, List.getElem?_cons_succ, List.getElem?_cons_zero] at a0 a1 a2 c0 c1 c2
        have OK9 : Hid ((m.scrub on).ok) := Lib.hid (scrub_ok HOKM.out on)
        obtain ⟨g9, q9, hv9, _, _, _⟩ := HFIN.out.1.rm.shape OK9.out
        have x0 := blk_cell HFIN.out.1.rm.blk 0
        have x2 := blk_cell HFIN.out.1.rm.blk 2
        have x4 := blk_cell HFIN.out.1.rm.blk 4
        simp only [rcs, List.getElem?_toArray, List.getElem?_cons_succ, List.getElem?_cons_zero] at x0 x2 x4
        rw [hv9] at x0
        have ON := Lib.hid (fun n => pon_any (HFIN.out.1.pm.drewN n))
        have WR := Lib.hid (fun n => pwrites_any (HFIN.out.1.pm.drewN n))
        have LN := Lib.hid (fun n => plen_any (HFIN.out.1.pm.drewN n))
        have hse := not_beq_self (m.scrub on).off
        clear hv9 hne p8 p9
        go_wp2_with fail
        go_quiet ((first | (go_at_call 23; exact Calls.quiet_of_same (ON.out _)) | (go_at_call 21; exact Calls.quiet_of_same (WR.out _)) | (go_at_call 31; exact Calls.quiet_of_same (LN.out _))))
        go_wp2_with fail
        refine bodyPost_ret (v := .tuple #[.pointer (some ⟨bm, 0, none⟩), .pointer (some ⟨br, 0, none⟩), .bool true]) (by simp [results, Tryd.results14, go_sem]) rfl ?_
        exact ⟨bm, _, br, _, rfl, ⟨HFIN.out.1.pm.drewN _, HFIN.out.1.rm.drewN _, HFIN.out.1.apart⟩, HFIN.out.2.1.drewN _, fun k hk => .inl hk, fun k hk => .inl hk⟩
  · go_simp
    obtain ⟨A8, hA⟩ : ∃ A, wq.heap.size = A := ⟨_, rfl⟩
    replace HB := Lib.hid (HB.out.alloc8)
    rw [hA] at HB
    rw [hA]
    clear hA
    refine hK.out _ _ (HB.out.cell) (fun hH2 => ?_)
    clear hK K hHeld
    rename _ => hHeld
    try simp only [Act.put, List.setIfInBounds_toArray, List.set_cons_zero, List.set_cons_succ]
    generalize World.alloc _ _ = wq at HB hHeld ⊢
    refine wpAnyH_ready (rs := [3, 9]) (by kernel_rfl) (by simp) ?_
    refine AllReadyH.cons (o := { dst := some 77, op := _, type := _, pos := _, after := _, guard := _ }) rfl (fun K hK => ?_) (AllReadyH.cons (o := { dst := some 15, op := _, type := _, pos := _, after := _, guard := _ }) rfl (fun K hK => ?_) AllReadyH.nil)
    · go_simp
      go_at_call 20; refine (pscrub_any HB.out.pm HOKM.out HB.out.tab on).mono ?_
      rintro r wq ⟨rfl, hp, hs⟩
      replace HB := Lib.hid (HB.out.callP hp hs)
      clear hp hs
      go_wp2_with fail
      refine hK.out _ _ (HB.out.cell) (fun hH2 => ?_)
      clear hK K hHeld
      rename _ => hHeld
      try simp only [Act.put, List.setIfInBounds_toArray, List.set_cons_zero, List.set_cons_succ]
      refine wpAnyH_ready (rs := [7, 9]) (by kernel_rfl) (by simp) ?_
      refine AllReadyH.cons (o := { dst := some 81, op := _, type := _, pos := _, after := _, guard := _ }) rfl (fun K hK => ?_) (AllReadyH.cons (o := { dst := some 15, op := _, type := _, pos := _, after := _, guard := _ }) rfl (fun K hK => ?_) AllReadyH.nil)
      · go_simp
        go_at_call 35; refine (rscrub_any HB.out.rm HOKM.out on).mono ?_
        rintro r wq ⟨rfl, hp, hs⟩
        replace HB := Lib.hid (HB.out.callR hp hs)
        clear hp hs
        go_wp2_with fail
        refine hK.out _ _ (HB.out.cell) (fun hH2 => ?_)
        clear hK K hHeld
        rename _ => hHeld
        try simp only [Act.put, List.setIfInBounds_toArray, List.set_cons_zero, List.set_cons_succ]
        refine wpAnyH_ready (rs := [9]) (by kernel_rfl) (by simp) ?_
        refine AllReadyH.cons (o := { dst := some 15, op := _, type := _, pos := _, after := _, guard := _ }) rfl (fun K hK => ?_) AllReadyH.nil
        go_simp
        obtain ⟨A9, hA⟩ : ∃ A, wq.heap.size = A := ⟨_, rfl⟩
        replace HB := Lib.hid (HB.out.alloc9)
        rw [hA] at HB
        rw [hA]
        clear hA
        refine hK.out _ _ (HB.out.cell) (fun hH2 => ?_)
        clear hK K hHeld
        rename _ => hHeld
        try simp only [Act.put, List.setIfInBounds_toArray, List.set_cons_zero, List.set_cons_succ]
        generalize World.alloc _ _ = wq at HB hHeld ⊢
        have hne := HB.out.two
        have n8 := HB.out.n8 A8 rfl
        have n9 := HB.out.n9 A9 rfl
        have a0 := blk_cell n8.2 0
        have a1 := blk_cell n8.2 1
        have a2 := blk_cell n8.2 2
        have c0 := blk_cell n9.2 0
        have c1 := blk_cell n9.2 1
        have c2 := blk_cell n9.2 2
        have d0 := blk_frozen n8.2 0
        have d1 := blk_frozen n8.2 1
        have d2 := blk_frozen n8.2 2
        have e0 := blk_frozen n9.2 0
        have e1 := blk_frozen n9.2 1
        have e2 := blk_frozen n9.2 2
        simp only [List.getElem?_toArray, List.getElem?_cons_succ, List.getElem?_cons_zero] at a0 a1 a2 c0 c1 c2
        have p8 := n8.1
        have p9 := n9.1
        have HBX := Lib.hid HB.out.cell
        obtain ⟨t1, ht1⟩ : ∃ t, (m.turns on : Int) = t := ⟨_, rfl⟩
        obtain ⟨t2, ht2⟩ : ∃ t, (m.found 1 (m.turns on) : Int) = t := ⟨_, rfl⟩
        obtain ⟨t3, ht3⟩ : ∃ t, (m.found 2 (m.turns on) : Int) = t := ⟨_, rfl⟩
        rw [ht1, ht2, ht3]
        clear ht1 ht2 ht3 n8 n9
        refine wpAnyH_ready (rs := [10]) (by kernel_rfl) (by simp) ?_
        refine AllReadyH.cons (o := { dst := none, op := _, type := _, pos := _, after := _, guard := _ }) rfl (fun K hK => ?_) AllReadyH.nil
        go_simp
        refine hK.out _ _ ?_ (fun hH2 => ?_)
        · exact (set3 p8).trans HBX.out
        clear hK K hHeld
        rename _ => hHeld
        try simp only [Act.put, List.setIfInBounds_toArray, List.set_cons_zero, List.set_cons_succ]
        refine wpAnyH_ready (rs := [11]) (by kernel_rfl) (by simp) ?_
        refine AllReadyH.cons (o := { dst := none, op := _, type := _, pos := _, after := _, guard := _ }) rfl (fun K hK => ?_) AllReadyH.nil
        go_simp
        refine hK.out _ _ ?_ (fun hH2 => ?_)
        · exact (set3 p9).trans ((set3 p8).trans HBX.out)
        clear hK K hHeld
        rename _ => hHeld
        try simp only [Act.put, List.setIfInBounds_toArray, List.set_cons_zero, List.set_cons_succ]
        refine wpAnyH_done (by kernel_rfl) ?_ _
        refine NoPanic.normal ?_
        obtain ⟨Z, hZ⟩ : ∃ Z, Z = (((((wq.setCell ⟨A8, 0, none⟩ (.int .i64 t1)).setCell ⟨A8, 1, none⟩ (.int .i64 t2)).setCell ⟨A8, 2, none⟩ (.int .i64 t3)).setCell ⟨A9, 0, none⟩ (.int .i64 t1)).setCell ⟨A9, 1, none⟩ (.int .i64 t2)).setCell ⟨A9, 2, none⟩ (.int .i64 t3) := ⟨_, rfl⟩
        rw [← hZ]
        have HFIN := Lib.hid (HB.out.fin _ _ _ Z hZ)
        clear hZ a0 a1 a2 c0 c1 c2 d0 d1 d2 e0 e1 e2 hHeld
        have a0 := blk_cell HFIN.out.2.2.1 0
        have a1 := blk_cell HFIN.out.2.2.1 1
        have a2 := blk_cell HFIN.out.2.2.1 2
        have c0 := blk_cell HFIN.out.2.2.2 0
        have c1 := blk_cell HFIN.out.2.2.2 1
        have c2 := blk_cell HFIN.out.2.2.2 2
        simp only [List.getElem?_toArray, List.getElem?_cons_succ, List.getElem?_cons_zero] at a0 a1 a2 c0 c1 c2
        have OK9 : Hid ((m.scrub on).ok) := Lib.hid (scrub_ok HOKM.out on)
        obtain ⟨g9, q9, hv9, _, _, _⟩ := HFIN.out.1.rm.shape OK9.out
        have x0 := blk_cell HFIN.out.1.rm.blk 0
        have x2 := blk_cell HFIN.out.1.rm.blk 2
        have x4 := blk_cell HFIN.out.1.rm.blk 4
        simp only [rcs, List.getElem?_toArray, List.getElem?_cons_succ, List.getElem?_cons_zero] at x0 x2 x4
        rw [hv9] at x0
        have ON := Lib.hid (fun n => pon_any (HFIN.out.1.pm.drewN n))
        have WR := Lib.hid (fun n => pwrites_any (HFIN.out.1.pm.drewN n))
        have LN := Lib.hid (fun n => plen_any (HFIN.out.1.pm.drewN n))
        have hse := not_beq_self (m.scrub on).off
        clear hv9 hne p8 p9
        go_wp2_with fail
        go_quiet ((first | (go_at_call 23; exact Calls.quiet_of_same (ON.out _)) | (go_at_call 21; exact Calls.quiet_of_same (WR.out _)) | (go_at_call 31; exact Calls.quiet_of_same (LN.out _))))
        go_wp2_with fail
        refine bodyPost_ret (v := .tuple #[.pointer (some ⟨bm, 0, none⟩), .pointer (some ⟨br, 0, none⟩), .bool true]) (by simp [results, Tryd.results14, go_sem]) rfl ?_
        exact ⟨bm, _, br, _, rfl, ⟨HFIN.out.1.pm.drewN _, HFIN.out.1.rm.drewN _, HFIN.out.1.apart⟩, HFIN.out.2.1.drewN _, fun k hk => .inl hk, fun k hk => .inl hk⟩
      · go_simp
        obtain ⟨A9, hA⟩ : ∃ A, wq.heap.size = A := ⟨_, rfl⟩
        replace HB := Lib.hid (HB.out.alloc9)
        rw [hA] at HB
        rw [hA]
        clear hA
        refine hK.out _ _ (HB.out.cell) (fun hH2 => ?_)
        clear hK K hHeld
        rename _ => hHeld
        try simp only [Act.put, List.setIfInBounds_toArray, List.set_cons_zero, List.set_cons_succ]
        generalize World.alloc _ _ = wq at HB hHeld ⊢
        refine wpAnyH_ready (rs := [7]) (by kernel_rfl) (by simp) ?_
        refine AllReadyH.cons (o := { dst := some 81, op := _, type := _, pos := _, after := _, guard := _ }) rfl (fun K hK => ?_) AllReadyH.nil
        go_simp
        go_at_call 35; refine (rscrub_any HB.out.rm HOKM.out on).mono ?_
        rintro r wq ⟨rfl, hp, hs⟩
        replace HB := Lib.hid (HB.out.callR hp hs)
        clear hp hs
        go_wp2_with fail
        refine hK.out _ _ (HB.out.cell) (fun hH2 => ?_)
        clear hK K hHeld
        rename _ => hHeld
        try simp only [Act.put, List.setIfInBounds_toArray, List.set_cons_zero, List.set_cons_succ]
        have hne := HB.out.two
        have n8 := HB.out.n8 A8 rfl
        have n9 := HB.out.n9 A9 rfl
        have a0 := blk_cell n8.2 0
        have a1 := blk_cell n8.2 1
        have a2 := blk_cell n8.2 2
        have c0 := blk_cell n9.2 0
        have c1 := blk_cell n9.2 1
        have c2 := blk_cell n9.2 2
        have d0 := blk_frozen n8.2 0
        have d1 := blk_frozen n8.2 1
        have d2 := blk_frozen n8.2 2
        have e0 := blk_frozen n9.2 0
        have e1 := blk_frozen n9.2 1
        have e2 := blk_frozen n9.2 2
        simp only [List.getElem?_toArray, List.getElem?_cons_succ, List.getElem?_cons_zero] at a0 a1 a2 c0 c1 c2
        have p8 := n8.1
        have p9 := n9.1
        have HBX := Lib.hid HB.out.cell
        obtain ⟨t1, ht1⟩ : ∃ t, (m.turns on : Int) = t := ⟨_, rfl⟩
        obtain ⟨t2, ht2⟩ : ∃ t, (m.found 1 (m.turns on) : Int) = t := ⟨_, rfl⟩
        obtain ⟨t3, ht3⟩ : ∃ t, (m.found 2 (m.turns on) : Int) = t := ⟨_, rfl⟩
        rw [ht1, ht2, ht3]
        clear ht1 ht2 ht3 n8 n9
        refine wpAnyH_ready (rs := [10]) (by kernel_rfl) (by simp) ?_
        refine AllReadyH.cons (o := { dst := none, op := _, type := _, pos := _, after := _, guard := _ }) rfl (fun K hK => ?_) AllReadyH.nil
        go_simp
        refine hK.out _ _ ?_ (fun hH2 => ?_)
        · exact (set3 p8).trans HBX.out
        clear hK K hHeld
        rename _ => hHeld
        try simp only [Act.put, List.setIfInBounds_toArray, List.set_cons_zero, List.set_cons_succ]
        refine wpAnyH_ready (rs := [11]) (by kernel_rfl) (by simp) ?_
        refine AllReadyH.cons (o := { dst := none, op := _, type := _, pos := _, after := _, guard := _ }) rfl (fun K hK => ?_) AllReadyH.nil
        go_simp
        refine hK.out _ _ ?_ (fun hH2 => ?_)
        · exact (set3 p9).trans ((set3 p8).trans HBX.out)
        clear hK K hHeld
        rename _ => hHeld
        try simp only [Act.put, List.setIfInBounds_toArray, List.set_cons_zero, List.set_cons_succ]
        refine wpAnyH_done (by kernel_rfl) ?_ _
        refine NoPanic.normal ?_
        obtain ⟨Z, hZ⟩ : ∃ Z, Z = (((((wq.setCell ⟨A8, 0, none⟩ (.int .i64 t1)).setCell ⟨A8, 1, none⟩ (.int .i64 t2)).setCell ⟨A8, 2, none⟩ (.int .i64 t3)).setCell ⟨A9, 0, none⟩ (.int .i64 t1)).setCell ⟨A9, 1, none⟩ (.int .i64 t2)).setCell ⟨A9, 2, none⟩ (.int .i64 t3) := ⟨_, rfl⟩
        rw [← hZ]
        have HFIN := Lib.hid (HB.out.fin _ _ _ Z hZ)
        clear hZ a0 a1 a2 c0 c1 c2 d0 d1 d2 e0 e1 e2 hHeld
        have a0 := blk_cell HFIN.out.2.2.1 0
        have a1 := blk_cell HFIN.out.2.2.1 1
        have a2 := blk_cell HFIN.out.2.2.1 2
        have c0 := blk_cell HFIN.out.2.2.2 0
        have c1 := blk_cell HFIN.out.2.2.2 1
        have c2 := blk_cell HFIN.out.2.2.2 2
        simp only [List.getElem?_toArray, List.getElem?_cons_succ, List.getElem?_cons_zero] at a0 a1 a2 c0 c1 c2
        have OK9 : Hid ((m.scrub on).ok) := Lib.hid (scrub_ok HOKM.out on)
        obtain ⟨g9, q9, hv9, _, _, _⟩ := HFIN.out.1.rm.shape OK9.out
        have x0 := blk_cell HFIN.out.1.rm.blk 0
        have x2 := blk_cell HFIN.out.1.rm.blk 2
        have x4 := blk_cell HFIN.out.1.rm.blk 4
        simp only [rcs, List.getElem?_toArray, List.getElem?_cons_succ, List.getElem?_cons_zero] at x0 x2 x4
        rw [hv9] at x0
        have ON := Lib.hid (fun n => pon_any (HFIN.out.1.pm.drewN n))
        have WR := Lib.hid (fun n => pwrites_any (HFIN.out.1.pm.drewN n))
        have LN := Lib.hid (fun n => plen_any (HFIN.out.1.pm.drewN n))
        have hse := not_beq_self (m.scrub on).off
        clear hv9 hne p8 p9
        go_wp2_with fail
        go_quiet ((first | (go_at_call 23; exact Calls.quiet_of_same (ON.out _)) | (go_at_call 21; exact Calls.quiet_of_same (WR.out _)) | (go_at_call 31; exact Calls.quiet_of_same (LN.out _))))
        go_wp2_with fail
        refine bodyPost_ret (v := .tuple #[.pointer (some ⟨bm, 0, none⟩), .pointer (some ⟨br, 0, none⟩), .bool true]) (by simp [results, Tryd.results14, go_sem]) rfl ?_
        exact ⟨bm, _, br, _, rfl, ⟨HFIN.out.1.pm.drewN _, HFIN.out.1.rm.drewN _, HFIN.out.1.apart⟩, HFIN.out.2.1.drewN _, fun k hk => .inl hk, fun k hk => .inl hk⟩
    · go_simp
      obtain ⟨A9, hA⟩ : ∃ A, wq.heap.size = A := ⟨_, rfl⟩
      replace HB := Lib.hid (HB.out.alloc9)
      rw [hA] at HB
      rw [hA]
      clear hA
      refine hK.out _ _ (HB.out.cell) (fun hH2 => ?_)
      clear hK K hHeld
      rename _ => hHeld
      try simp only [Act.put, List.setIfInBounds_toArray, List.set_cons_zero, List.set_cons_succ]
      generalize World.alloc _ _ = wq at HB hHeld ⊢
      refine wpAnyH_ready (rs := [3]) (by kernel_rfl) (by simp) ?_
      refine AllReadyH.cons (o := { dst := some 77, op := _, type := _, pos := _, after := _, guard := _ }) rfl (fun K hK => ?_) AllReadyH.nil
      go_simp
      go_at_call 20; refine (pscrub_any HB.out.pm HOKM.out HB.out.tab on).mono ?_
      rintro r wq ⟨rfl, hp, hs⟩
      replace HB := Lib.hid (HB.out.callP hp hs)
      clear hp hs
      go_wp2_with fail
      refine hK.out _ _ (HB.out.cell) (fun hH2 => ?_)
      clear hK K hHeld
      rename _ => hHeld
      try simp only [Act.put, List.setIfInBounds_toArray, List.set_cons_zero, List.set_cons_succ]
      refine wpAnyH_ready (rs := [7]) (by kernel_rfl) (by simp) ?_
      refine AllReadyH.cons (o := { dst := some 81, op := _, type := _, pos := _, after := _, guard := _ }) rfl (fun K hK => ?_) AllReadyH.nil
      go_simp
      go_at_call 35; refine (rscrub_any HB.out.rm HOKM.out on).mono ?_
      rintro r wq ⟨rfl, hp, hs⟩
      replace HB := Lib.hid (HB.out.callR hp hs)
      clear hp hs
      go_wp2_with fail
      refine hK.out _ _ (HB.out.cell) (fun hH2 => ?_)
      clear hK K hHeld
      rename _ => hHeld
      try simp only [Act.put, List.setIfInBounds_toArray, List.set_cons_zero, List.set_cons_succ]
      have hne := HB.out.two
      have n8 := HB.out.n8 A8 rfl
      have n9 := HB.out.n9 A9 rfl
      have a0 := blk_cell n8.2 0
      have a1 := blk_cell n8.2 1
      have a2 := blk_cell n8.2 2
      have c0 := blk_cell n9.2 0
      have c1 := blk_cell n9.2 1
      have c2 := blk_cell n9.2 2
      have d0 := blk_frozen n8.2 0
      have d1 := blk_frozen n8.2 1
      have d2 := blk_frozen n8.2 2
      have e0 := blk_frozen n9.2 0
      have e1 := blk_frozen n9.2 1
      have e2 := blk_frozen n9.2 2
      simp only [List.getElem?_toArray, List.getElem?_cons_succ, List.getElem?_cons_zero] at a0 a1 a2 c0 c1 c2
      have p8 := n8.1
      have p9 := n9.1
      have HBX := Lib.hid HB.out.cell
      obtain ⟨t1, ht1⟩ : ∃ t, (m.turns on : Int) = t := ⟨_, rfl⟩
      obtain ⟨t2, ht2⟩ : ∃ t, (m.found 1 (m.turns on) : Int) = t := ⟨_, rfl⟩
      obtain ⟨t3, ht3⟩ : ∃ t, (m.found 2 (m.turns on) : Int) = t := ⟨_, rfl⟩
      rw [ht1, ht2, ht3]
      clear ht1 ht2 ht3 n8 n9
      refine wpAnyH_ready (rs := [10]) (by kernel_rfl) (by simp) ?_
      refine AllReadyH.cons (o := { dst := none, op := _, type := _, pos := _, after := _, guard := _ }) rfl (fun K hK => ?_) AllReadyH.nil
      go_simp
      refine hK.out _ _ ?_ (fun hH2 => ?_)
      · exact (set3 p8).trans HBX.out
      clear hK K hHeld
      rename _ => hHeld
      try simp only [Act.put, List.setIfInBounds_toArray, List.set_cons_zero, List.set_cons_succ]
      refine wpAnyH_ready (rs := [11]) (by kernel_rfl) (by simp) ?_
      refine AllReadyH.cons (o := { dst := none, op := _, type := _, pos := _, after := _, guard := _ }) rfl (fun K hK => ?_) AllReadyH.nil
      go_simp
      refine hK.out _ _ ?_ (fun hH2 => ?_)
      · exact (set3 p9).trans ((set3 p8).trans HBX.out)
      clear hK K hHeld
      rename _ => hHeld
      try simp only [Act.put, List.setIfInBounds_toArray, List.set_cons_zero, List.set_cons_succ]
      refine wpAnyH_done (by kernel_rfl) ?_ _
      refine NoPanic.normal ?_
      obtain ⟨Z, hZ⟩ : ∃ Z, Z = (((((wq.setCell ⟨A8, 0, none⟩ (.int .i64 t1)).setCell ⟨A8, 1, none⟩ (.int .i64 t2)).setCell ⟨A8, 2, none⟩ (.int .i64 t3)).setCell ⟨A9, 0, none⟩ (.int .i64 t1)).setCell ⟨A9, 1, none⟩ (.int .i64 t2)).setCell ⟨A9, 2, none⟩ (.int .i64 t3) := ⟨_, rfl⟩
      rw [← hZ]
      have HFIN := Lib.hid (HB.out.fin _ _ _ Z hZ)
      clear hZ a0 a1 a2 c0 c1 c2 d0 d1 d2 e0 e1 e2 hHeld
      have a0 := blk_cell HFIN.out.2.2.1 0
      have a1 := blk_cell HFIN.out.2.2.1 1
      have a2 := blk_cell HFIN.out.2.2.1 2
      have c0 := blk_cell HFIN.out.2.2.2 0
      have c1 := blk_cell HFIN.out.2.2.2 1
      have c2 := blk_cell HFIN.out.2.2.2 2
      simp only [List.getElem?_toArray, List.getElem?_cons_succ, List.getElem?_cons_zero] at a0 a1 a2 c0 c1 c2
      have OK9 : Hid ((m.scrub on).ok) := Lib.hid (scrub_ok HOKM.out on)
      obtain ⟨g9, q9, hv9, _, _, _⟩ := HFIN.out.1.rm.shape OK9.out
      have x0 := blk_cell HFIN.out.1.rm.blk 0
      have x2 := blk_cell HFIN.out.1.rm.blk 2
      have x4 := blk_cell HFIN.out.1.rm.blk 4
      simp only [rcs, List.getElem?_toArray, List.getElem?_cons_succ, List.getElem?_cons_zero] at x0 x2 x4
      rw [hv9] at x0
      have ON := Lib.hid (fun n => pon_any (HFIN.out.1.pm.drewN n))
      have WR := Lib.hid (fun n => pwrites_any (HFIN.out.1.pm.drewN n))
      have LN := Lib.hid (fun n => plen_any (HFIN.out.1.pm.drewN n))
      have hse := not_beq_self (m.scrub on).off
      clear hv9 hne p8 p9
      go_wp2_with fail
      go_quiet ((first | (go_at_call 23; exact Calls.quiet_of_same (ON.out _)) | (go_at_call 21; exact Calls.quiet_of_same (WR.out _)) | (go_at_call 31; exact Calls.quiet_of_same (LN.out _))))
      go_wp2_with fail
      refine bodyPost_ret (v := .tuple #[.pointer (some ⟨bm, 0, none⟩), .pointer (some ⟨br, 0, none⟩), .bool true]) (by simp [results, Tryd.results14, go_sem]) rfl ?_
      exact ⟨bm, _, br, _, rfl, ⟨HFIN.out.1.pm.drewN _, HFIN.out.1.rm.drewN _, HFIN.out.1.apart⟩, HFIN.out.2.1.drewN _, fun k hk => .inl hk, fun k hk => .inl hk⟩
  · go_simp
    obtain ⟨A9, hA⟩ : ∃ A, wq.heap.size = A := ⟨_, rfl⟩
    replace HB := Lib.hid (HB.out.alloc9)
    rw [hA] at HB
    rw [hA]
    clear hA
    refine hK.out _ _ (HB.out.cell) (fun hH2 => ?_)
    clear hK K hHeld
    rename _ => hHeld
    try simp only [Act.put, List.setIfInBounds_toArray, List.set_cons_zero, List.set_cons_succ]
    generalize World.alloc _ _ = wq at HB hHeld ⊢
    refine wpAnyH_ready (rs := [3, 8]) (by kernel_rfl) (by simp) ?_
    refine AllReadyH.cons (o := { dst := some 77, op := _, type := _, pos := _, after := _, guard := _ }) rfl (fun K hK => ?_) (AllReadyH.cons (o := { dst := some 14, op := _, type := _, pos := _, after := _, guard := _ }) rfl (fun K hK => ?_) AllReadyH.nil)
    · go_simp
      go_at_call 20; refine (pscrub_any HB.out.pm HOKM.out HB.out.tab on).mono ?_
      rintro r wq ⟨rfl, hp, hs⟩
      replace HB := Lib.hid (HB.out.callP hp hs)
      clear hp hs
      go_wp2_with fail
      refine hK.out _ _ (HB.out.cell) (fun hH2 => ?_)
      clear hK K hHeld
      rename _ => hHeld
      try simp only [Act.put, List.setIfInBounds_toArray, List.set_cons_zero, List.set_cons_succ]
      refine wpAnyH_ready (rs := [7, 8]) (by kernel_rfl) (by simp) ?_
      refine AllReadyH.cons (o := { dst := some 81, op := _, type := _, pos := _, after := _, guard := _ }) rfl (fun K hK => ?_) (AllReadyH.cons (o := { dst := some 14, op := _, type := _, pos := _, after := _, guard := _ }) rfl (fun K hK => ?_) AllReadyH.nil)
      · go_simp
        go_at_call 35; refine (rscrub_any HB.out.rm HOKM.out on).mono ?_
        rintro r wq ⟨rfl, hp, hs⟩
        replace HB := Lib.hid (HB.out.callR hp hs)
        clear hp hs
        go_wp2_with fail
        refine hK.out _ _ (HB.out.cell) (fun hH2 => ?_)
        clear hK K hHeld
        rename _ => hHeld
        try simp only [Act.put, List.setIfInBounds_toArray, List.set_cons_zero, List.set_cons_succ]
        refine wpAnyH_ready (rs := [8]) (by kernel_rfl) (by simp) ?_
        refine AllReadyH.cons (o := { dst := some 14, op := _, type := _, pos := _, after := _, guard := _ }) rfl (fun K hK => ?_) AllReadyH.nil
        go_simp
        obtain ⟨A8, hA⟩ : ∃ A, wq.heap.size = A := ⟨_, rfl⟩
        replace HB := Lib.hid (HB.out.alloc8)
        rw [hA] at HB
        rw [hA]
        clear hA
        refine hK.out _ _ (HB.out.cell) (fun hH2 => ?_)
        clear hK K hHeld
        rename _ => hHeld
        try simp only [Act.put, List.setIfInBounds_toArray, List.set_cons_zero, List.set_cons_succ]
        generalize World.alloc _ _ = wq at HB hHeld ⊢
        have hne := HB.out.two
        have n8 := HB.out.n8 A8 rfl
        have n9 := HB.out.n9 A9 rfl
        have a0 := blk_cell n8.2 0
        have a1 := blk_cell n8.2 1
        have a2 := blk_cell n8.2 2
        have c0 := blk_cell n9.2 0
        have c1 := blk_cell n9.2 1
        have c2 := blk_cell n9.2 2
        have d0 := blk_frozen n8.2 0
        have d1 := blk_frozen n8.2 1
        have d2 := blk_frozen n8.2 2
        have e0 := blk_frozen n9.2 0
        have e1 := blk_frozen n9.2 1
        have e2 := blk_frozen n9.2 2
        simp only [List.getElem?_toArray, List.getElem?_cons_succ, List.getElem?_cons_zero] at a0 a1 a2 c0 c1 c2
        have p8 := n8.1
        have p9 := n9.1
        have HBX := Lib.hid HB.out.cell
        obtain ⟨t1, ht1⟩ : ∃ t, (m.turns on : Int) = t := ⟨_, rfl⟩
        obtain ⟨t2, ht2⟩ : ∃ t, (m.found 1 (m.turns on) : Int) = t := ⟨_, rfl⟩
        obtain ⟨t3, ht3⟩ : ∃ t, (m.found 2 (m.turns on) : Int) = t := ⟨_, rfl⟩
        rw [ht1, ht2, ht3]
        clear ht1 ht2 ht3 n8 n9
        refine wpAnyH_ready (rs := [10]) (by kernel_rfl) (by simp) ?_
        refine AllReadyH.cons (o := { dst := none, op := _, type := _, pos := _, after := _, guard := _ }) rfl (fun K hK => ?_) AllReadyH.nil
        go_simp
        refine hK.out _ _ ?_ (fun hH2 => ?_)
        · exact (set3 p8).trans HBX.out
        clear hK K hHeld
        rename _ => hHeld
        try simp only [Act.put, List.setIfInBounds_toArray, List.set_cons_zero, List.set_cons_succ]
        refine wpAnyH_ready (rs := [11]) (by kernel_rfl) (by simp) ?_
        refine AllReadyH.cons (o := { dst := none, op := _, type := _, pos := _, after := _, guard := _ }) rfl (fun K hK => ?_) AllReadyH.nil
        go_simp
        refine hK.out _ _ ?_ (fun hH2 => ?_)
        · exact (set3 p9).trans ((set3 p8).trans HBX.out)
        clear hK K hHeld
        rename _ => hHeld
        try simp only [Act.put, List.setIfInBounds_toArray, List.set_cons_zero, List.set_cons_succ]
        refine wpAnyH_done (by kernel_rfl) ?_ _
        refine NoPanic.normal ?_
        obtain ⟨Z, hZ⟩ : ∃ Z, Z = (((((wq.setCell ⟨A8, 0, none⟩ (.int .i64 t1)).setCell ⟨A8, 1, none⟩ (.int .i64 t2)).setCell ⟨A8, 2, none⟩ (.int .i64 t3)).setCell ⟨A9, 0, none⟩ (.int .i64 t1)).setCell ⟨A9, 1, none⟩ (.int .i64 t2)).setCell ⟨A9, 2, none⟩ (.int .i64 t3) := ⟨_, rfl⟩
        rw [← hZ]
        have HFIN := Lib.hid (HB.out.fin _ _ _ Z hZ)
        clear hZ a0 a1 a2 c0 c1 c2 d0 d1 d2 e0 e1 e2 hHeld
        have a0 := blk_cell HFIN.out.2.2.1 0
        have a1 := blk_cell HFIN.out.2.2.1 1
        have a2 := blk_cell HFIN.out.2.2.1 2
        have c0 := blk_cell HFIN.out.2.2.2 0
        have c1 := blk_cell HFIN.out.2.2.2 1
        have c2 := blk_cell HFIN.out.2.2.2 2
        simp only [List.getElem?_toArray, List.getElem?_cons_succ, List.getElem?_cons_zero] at a0 a1 a2 c0 c1 c2
        have OK9 : Hid ((m.scrub on).ok) := Lib.hid (scrub_ok HOKM.out on)
        obtain ⟨g9, q9, hv9, _, _, _⟩ := HFIN.out.1.rm.shape OK9.out
        have x0 := blk_cell HFIN.out.1.rm.blk 0
        have x2 := blk_cell HFIN.out.1.rm.blk 2
        have x4 := blk_cell HFIN.out.1.rm.blk 4
        simp only [rcs, List.getElem?_toArray, List.getElem?_cons_succ, List.getElem?_cons_zero] at x0 x2 x4
        rw [hv9] at x0
        have ON := Lib.hid (fun n => pon_any (HFIN.out.1.pm.drewN n))
        have WR := Lib.hid (fun n => pwrites_any (HFIN.out.1.pm.drewN n))
        have LN := Lib.hid (fun n => plen_any (HFIN.out.1.pm.drewN n))
        have hse := not_beq_self (m.scrub on).off
        clear hv9 hne p8 p9
        go_wp2_with fail
        go_quiet ((first | (go_at_call 23; exact Calls.quiet_of_same (ON.out _)) | (go_at_call 21; exact Calls.quiet_of_same (WR.out _)) | (go_at_call 31; exact Calls.quiet_of_same (LN.out _))))
        go_wp2_with fail
        refine bodyPost_ret (v := .tuple #[.pointer (some ⟨bm, 0, none⟩), .pointer (some ⟨br, 0, none⟩), .bool true]) (by simp [results, Tryd.results14, go_sem]) rfl ?_
        exact ⟨bm, _, br, _, rfl, ⟨HFIN.out.1.pm.drewN _, HFIN.out.1.rm.drewN _, HFIN.out.1.apart⟩, HFIN.out.2.1.drewN _, fun k hk => .inl hk, fun k hk => .inl hk⟩
      · go_simp
        obtain ⟨A8, hA⟩ : ∃ A, wq.heap.size = A := ⟨_, rfl⟩
        replace HB := Lib.hid (HB.out.alloc8)
        rw [hA] at HB
        rw [hA]
        clear hA
        refine hK.out _ _ (HB.out.cell) (fun hH2 => ?_)
        clear hK K hHeld
        rename _ => hHeld
        try simp only [Act.put, List.setIfInBounds_toArray, List.set_cons_zero, List.set_cons_succ]
        generalize World.alloc _ _ = wq at HB hHeld ⊢
        refine wpAnyH_ready (rs := [7]) (by kernel_rfl) (by simp) ?_
        refine AllReadyH.cons (o := { dst := some 81, op := _, type := _, pos := _, after := _, guard := _ }) rfl (fun K hK => ?_) AllReadyH.nil
        go_simp
        go_at_call 35; refine (rscrub_any HB.out.rm HOKM.out on).mono ?_
        rintro r wq ⟨rfl, hp, hs⟩
        replace HB := Lib.hid (HB.out.callR hp hs)
        clear hp hs
        go_wp2_with fail
        refine hK.out _ _ (HB.out.cell) (fun hH2 => ?_)
        clear hK K hHeld
        rename _ => hHeld
        try simp only [Act.put, List.setIfInBounds_toArray, List.set_cons_zero, List.set_cons_succ]
        have hne := HB.out.two
        have n8 := HB.out.n8 A8 rfl
        have n9 := HB.out.n9 A9 rfl
        have a0 := blk_cell n8.2 0
        have a1 := blk_cell n8.2 1
        have a2 := blk_cell n8.2 2
        have c0 := blk_cell n9.2 0
        have c1 := blk_cell n9.2 1
        have c2 := blk_cell n9.2 2
        have d0 := blk_frozen n8.2 0
        have d1 := blk_frozen n8.2 1
        have d2 := blk_frozen n8.2 2
        have e0 := blk_frozen n9.2 0
        have e1 := blk_frozen n9.2 1
        have e2 := blk_frozen n9.2 2
        simp only [List.getElem?_toArray, List.getElem?_cons_succ, List.getElem?_cons_zero] at a0 a1 a2 c0 c1 c2
        have p8 := n8.1
        have p9 := n9.1
        have HBX := Lib.hid HB.out.cell
        obtain ⟨t1, ht1⟩ : ∃ t, (m.turns on : Int) = t := ⟨_, rfl⟩
        obtain ⟨t2, ht2⟩ : ∃ t, (m.found 1 (m.turns on) : Int) = t := ⟨_, rfl⟩
        obtain ⟨t3, ht3⟩ : ∃ t, (m.found 2 (m.turns on) : Int) = t := ⟨_, rfl⟩
        rw [ht1, ht2, ht3]
        clear ht1 ht2 ht3 n8 n9
        refine wpAnyH_ready (rs := [10]) (by kernel_rfl) (by simp) ?_
        refine AllReadyH.cons (o := { dst := none, op := _, type := _, pos := _, after := _, guard := _ }) rfl (fun K hK => ?_) AllReadyH.nil
        go_simp
        refine hK.out _ _ ?_ (fun hH2 => ?_)
        · exact (set3 p8).trans HBX.out
        clear hK K hHeld
        rename _ => hHeld
        try simp only [Act.put, List.setIfInBounds_toArray, List.set_cons_zero, List.set_cons_succ]
        refine wpAnyH_ready (rs := [11]) (by kernel_rfl) (by simp) ?_
        refine AllReadyH.cons (o := { dst := none, op := _, type := _, pos := _, after := _, guard := _ }) rfl (fun K hK => ?_) AllReadyH.nil
        go_simp
        refine hK.out _ _ ?_ (fun hH2 => ?_)
        · exact (set3 p9).trans ((set3 p8).trans HBX.out)
        clear hK K hHeld
        rename _ => hHeld
        try simp only [Act.put, List.setIfInBounds_toArray, List.set_cons_zero, List.set_cons_succ]
        refine wpAnyH_done (by kernel_rfl) ?_ _
        refine NoPanic.normal ?_
        obtain ⟨Z, hZ⟩ : ∃ Z, Z = (((((wq.setCell ⟨A8, 0, none⟩ (.int .i64 t1)).setCell ⟨A8, 1, none⟩ (.int .i64 t2)).setCell ⟨A8, 2, none⟩ (.int .i64 t3)).setCell ⟨A9, 0, none⟩ (.int .i64 t1)).setCell ⟨A9, 1, none⟩ (.int .i64 t2)).setCell ⟨A9, 2, none⟩ (.int .i64 t3) := ⟨_, rfl⟩
        rw [← hZ]
        have HFIN := Lib.hid (HB.out.fin _ _ _ Z hZ)
        clear hZ a0 a1 a2 c0 c1 c2 d0 d1 d2 e0 e1 e2 hHeld
        have a0 := blk_cell HFIN.out.2.2.1 0
        have a1 := blk_cell HFIN.out.2.2.1 1
        have a2 := blk_cell HFIN.out.2.2.1 2
        have c0 := blk_cell HFIN.out.2.2.2 0
        have c1 := blk_cell HFIN.out.2.2.2 1
        have c2 := blk_cell HFIN.out.2.2.2 2
        simp only [List.getElem?_toArray, List.getElem?_cons_succ, List.getElem?_cons_zero] at a0 a1 a2 c0 c1 c2
        have OK9 : Hid ((m.scrub on).ok) := Lib.hid (scrub_ok HOKM.out on)
        obtain ⟨g9, q9, hv9, _, _, _⟩ := HFIN.out.1.rm.shape OK9.out
        have x0 := blk_cell HFIN.out.1.rm.blk 0
        have x2 := blk_cell HFIN.out.1.rm.blk 2
        have x4 := blk_cell HFIN.out.1.rm.blk 4
        simp only [rcs, List.getElem?_toArray, List.getElem?_cons_succ, List.getElem?_cons_zero] at x0 x2 x4
        rw [hv9] at x0
        have ON := Lib.hid (fun n => pon_any (HFIN.out.1.pm.drewN n))
        have WR := Lib.hid (fun n => pwrites_any (HFIN.out.1.pm.drewN n))
        have LN := Lib.hid (fun n => plen_any (HFIN.out.1.pm.drewN n))
        have hse := not_beq_self (m.scrub on).off
        clear hv9 hne p8 p9
        go_wp2_with fail
        go_quiet ((first | (go_at_call 23; exact Calls.quiet_of_same (ON.out _)) | (go_at_call 21; exact Calls.quiet_of_same (WR.out _)) | (go_at_call 31; exact Calls.quiet_of_same (LN.out _))))
        go_wp2_with fail
        refine bodyPost_ret (v := .tuple #[.pointer (some ⟨bm, 0, none⟩), .pointer (some ⟨br, 0, none⟩), .bool true]) (by simp [results, Tryd.results14, go_sem]) rfl ?_
        exact ⟨bm, _, br, _, rfl, ⟨HFIN.out.1.pm.drewN _, HFIN.out.1.rm.drewN _, HFIN.out.1.apart⟩, HFIN.out.2.1.drewN _, fun k hk => .inl hk, fun k hk => .inl hk⟩
    · go_simp
      obtain ⟨A8, hA⟩ : ∃ A, wq.heap.size = A := ⟨_, rfl⟩
      replace HB := Lib.hid (HB.out.alloc8)
      rw [hA] at HB
      rw [hA]
      clear hA
      refine hK.out _ _ (HB.out.cell) (fun hH2 => ?_)
      clear hK K hHeld
      rename _ => hHeld
      try simp only [Act.put, List.setIfInBounds_toArray, List.set_cons_zero, List.set_cons_succ]
      generalize World.alloc _ _ = wq at HB hHeld ⊢
      refine wpAnyH_ready (rs := [3]) (by kernel_rfl) (by simp) ?_
      refine AllReadyH.cons (o := { dst := some 77, op := _, type := _, pos := _, after := _, guard := _ }) rfl (fun K hK => ?_) AllReadyH.nil
      go_simp
      go_at_call 20; refine (pscrub_any HB.out.pm HOKM.out HB.out.tab on).mono ?_
      rintro r wq ⟨rfl, hp, hs⟩
      replace HB := Lib.hid (HB.out.callP hp hs)
      clear hp hs
      go_wp2_with fail
      refine hK.out _ _ (HB.out.cell) (fun hH2 => ?_)
      clear hK K hHeld
      rename _ => hHeld
      try simp only [Act.put, List.setIfInBounds_toArray, List.set_cons_zero, List.set_cons_succ]
      refine wpAnyH_ready (rs := [7]) (by kernel_rfl) (by simp) ?_
      refine AllReadyH.cons (o := { dst := some 81, op := _, type := _, pos := _, after := _, guard := _ }) rfl (fun K hK => ?_) AllReadyH.nil
      go_simp
      go_at_call 35; refine (rscrub_any HB.out.rm HOKM.out on).mono ?_
      rintro r wq ⟨rfl, hp, hs⟩
      replace HB := Lib.hid (HB.out.callR hp hs)
      clear hp hs
      go_wp2_with fail
      refine hK.out _ _ (HB.out.cell) (fun hH2 => ?_)
      clear hK K hHeld
      rename _ => hHeld
      try simp only [Act.put, List.setIfInBounds_toArray, List.set_cons_zero, List.set_cons_succ]
      have hne := HB.out.two
      have n8 := HB.out.n8 A8 rfl
      have n9 := HB.out.n9 A9 rfl
      have a0 := blk_cell n8.2 0
      have a1 := blk_cell n8.2 1
      have a2 := blk_cell n8.2 2
      have c0 := blk_cell n9.2 0
      have c1 := blk_cell n9.2 1
      have c2 := blk_cell n9.2 2
      have d0 := blk_frozen n8.2 0
      have d1 := blk_frozen n8.2 1
      have d2 := blk_frozen n8.2 2
      have e0 := blk_frozen n9.2 0
      have e1 := blk_frozen n9.2 1
      have e2 := blk_frozen n9.2 2
      simp only [List.getElem?_toArray, List.getElem?_cons_succ, List.getElem?_cons_zero] at a0 a1 a2 c0 c1 c2
      have p8 := n8.1
      have p9 := n9.1
      have HBX := Lib.hid HB.out.cell
      obtain ⟨t1, ht1⟩ : ∃ t, (m.turns on : Int) = t := ⟨_, rfl⟩
      obtain ⟨t2, ht2⟩ : ∃ t, (m.found 1 (m.turns on) : Int) = t := ⟨_, rfl⟩
      obtain ⟨t3, ht3⟩ : ∃ t, (m.found 2 (m.turns on) : Int) = t := ⟨_, rfl⟩
      rw [ht1, ht2, ht3]
      clear ht1 ht2 ht3 n8 n9
      refine wpAnyH_ready (rs := [10]) (by kernel_rfl) (by simp) ?_
      refine AllReadyH.cons (o := { dst := none, op := _, type := _, pos := _, after := _, guard := _ }) rfl (fun K hK => ?_) AllReadyH.nil
      go_simp
      refine hK.out _ _ ?_ (fun hH2 => ?_)
      · exact (set3 p8).trans HBX.out
      clear hK K hHeld
      rename _ => hHeld
      try simp only [Act.put, List.setIfInBounds_toArray, List.set_cons_zero, List.set_cons_succ]
      refine wpAnyH_ready (rs := [11]) (by kernel_rfl) (by simp) ?_
      refine AllReadyH.cons (o := { dst := none, op := _, type := _, pos := _, after := _, guard := _ }) rfl (fun K hK => ?_) AllReadyH.nil
      go_simp
      refine hK.out _ _ ?_ (fun hH2 => ?_)
      · exact (set3 p9).trans ((set3 p8).trans HBX.out)
      clear hK K hHeld
      rename _ => hHeld
      try simp only [Act.put, List.setIfInBounds_toArray, List.set_cons_zero, List.set_cons_succ]
      refine wpAnyH_done (by kernel_rfl) ?_ _
      refine NoPanic.normal ?_
      obtain ⟨Z, hZ⟩ : ∃ Z, Z = (((((wq.setCell ⟨A8, 0, none⟩ (.int .i64 t1)).setCell ⟨A8, 1, none⟩ (.int .i64 t2)).setCell ⟨A8, 2, none⟩ (.int .i64 t3)).setCell ⟨A9, 0, none⟩ (.int .i64 t1)).setCell ⟨A9, 1, none⟩ (.int .i64 t2)).setCell ⟨A9, 2, none⟩ (.int .i64 t3) := ⟨_, rfl⟩
      rw [← hZ]
      have HFIN := Lib.hid (HB.out.fin _ _ _ Z hZ)
      clear hZ a0 a1 a2 c0 c1 c2 d0 d1 d2 e0 e1 e2 hHeld
      have a0 := blk_cell HFIN.out.2.2.1 0
      have a1 := blk_cell HFIN.out.2.2.1 1
      have a2 := blk_cell HFIN.out.2.2.1 2
      have c0 := blk_cell HFIN.out.2.2.2 0
      have c1 := blk_cell HFIN.out.2.2.2 1
      have c2 := blk_cell HFIN.out.2.2.2 2
      simp only [List.getElem?_toArray, List.getElem?_cons_succ, List.getElem?_cons_zero] at a0 a1 a2 c0 c1 c2
      have OK9 : Hid ((m.scrub on).ok) := Lib.hid (scrub_ok HOKM.out on)
      obtain ⟨g9, q9, hv9, _, _, _⟩ := HFIN.out.1.rm.shape OK9.out
      have x0 := blk_cell HFIN.out.1.rm.blk 0
      have x2 := blk_cell HFIN.out.1.rm.blk 2
      have x4 := blk_cell HFIN.out.1.rm.blk 4
      simp only [rcs, List.getElem?_toArray, List.getElem?_cons_succ, List.getElem?_cons_zero] at x0 x2 x4
      rw [hv9] at x0
      have ON := Lib.hid (fun n => pon_any (HFIN.out.1.pm.drewN n))
      have WR := Lib.hid (fun n => pwrites_any (HFIN.out.1.pm.drewN n))
      have LN := Lib.hid (fun n => plen_any (HFIN.out.1.pm.drewN n))
      have hse := not_beq_self (m.scrub on).off
      clear hv9 hne p8 p9
      go_wp2_with fail
      go_quiet ((first | (go_at_call 23; exact Calls.quiet_of_same (ON.out _)) | (go_at_call 21; exact Calls.quiet_of_same (WR.out _)) | (go_at_call 31; exact Calls.quiet_of_same (LN.out _))))
      go_wp2_with fail
      refine bodyPost_ret (v := .tuple #[.pointer (some ⟨bm, 0, none⟩), .pointer (some ⟨br, 0, none⟩), .bool true]) (by simp [results, Tryd.results14, go_sem]) rfl ?_
      exact ⟨bm, _, br, _, rfl, ⟨HFIN.out.1.pm.drewN _, HFIN.out.1.rm.drewN _, HFIN.out.1.apart⟩, HFIN.out.2.1.drewN _, fun k hk => .inl hk, fun k hk => .inl hk⟩
end M
end Go.Proofs.YtehpbjkacdmlaaaDoor
