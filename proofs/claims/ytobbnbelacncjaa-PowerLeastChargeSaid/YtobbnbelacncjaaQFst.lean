/-
  The first window that an iterator yields; At and Next.
-/
import Derived.Test.YtobbnbelacncjaaQIt
import Derived.RangeFuncLeaves
import Derived.RangeFuncNested
namespace Go.Proofs.Ytobbnbelacncjaa
open Go.RowKit Go.Shelf
attribute [local go_sem] Oper.semAt_some
namespace Q
open H
set_option linter.unusedVariables false
set_option linter.unusedSimpArgs false
set_option maxRecDepth 100000
theorem hset {W : World} {b i : Nat} {cs : Array Value} {T : TypeId} {m : Nat × Nat} (v : Value) (h : W.heap[b]? = some (.cells cs T m)) : (W.setCell ⟨b, i, none⟩ v).heap[b]? = some (.cells (cs.setIfInBounds i v) T m) := by
  obtain ⟨hlt, hk⟩ := Array.getElem?_eq_some_iff.1 h
  show (W.heap.modify b _)[b]? = _
  rw [Array.getElem?_eq_getElem (by rw [Array.size_modify]; exact hlt), Array.getElem_modify_self, hk]
  rfl
theorem hoth {W : World} {b b' i : Nat} {o : Obj} (v : Value) (h : W.heap[b]? = some o) (hne : b ≠ b') : (W.setCell ⟨b', i, none⟩ v).heap[b]? = some o :=
  (Below.heap_setCell _ _ _ _ (by simpa using hne)).trans h
theorem hup {W : World} {b : Nat} {o : Obj} (o' : Obj) (h : W.heap[b]? = some o) : (W.alloc o').heap[b]? = some o := heap_keep (bel1 W o') h
theorem hlt_of {W : World} {b : Nat} {o : Obj} (h : W.heap[b]? = some o) : b < W.heap.size := (Array.getElem?_eq_some_iff.1 h).1
theorem heap_own {W W' : World} {row : Option Nat} {b : Nat} {o : Obj} (h : W.heap[b]? = some o) (hc : o.isCells = true) (hg : W.grownBy W' row) (hr : ∀ r, row = some r → ∃ o : Obj, W.heap[r]? = some o ∧ o.isCells = false) : W'.heap[b]? = some o :=
  (hg.block b (hlt_of h) (fun e => by
    obtain ⟨o', h', hc'⟩ := hr b e.symm
    rw [h] at h'
    obtain rfl := Option.some.inj h'
    rw [hc] at hc'; cases hc')).trans h
/-- A window's box as an object. -/
abbrev wcells (x : Wn) : Array Value := #[.int .i64 x.kind, .int .i64 x.a, .int .i64 x.b, .int .i64 x.fr, .int .i64 x.un, .int .i64 x.rate]
def Wb (W : World) (b : Nat) (x : Wn) : Prop := W.heap[b]? = some (.cells (wcells x) 77 (0, 0))
theorem Wb.bx {W : World} {b : Nat} {x : Wn} (h : Wb W b x) : Bx W b x := by
  unfold Wb at h
  exact ⟨by simp [World.cell?, h], by simp [World.cell?, h], by simp [World.cell?, h], by simp [World.cell?, h], by simp [World.cell?, h], by simp [World.cell?, h]⟩
theorem Wb.fz {W : World} {b : Nat} {x : Wn} (h : Wb W b x) : W.frozen? ⟨b, 0, none⟩ = false ∧ W.frozen? ⟨b, 1, none⟩ = false ∧ W.frozen? ⟨b, 2, none⟩ = false ∧ W.frozen? ⟨b, 3, none⟩ = false ∧ W.frozen? ⟨b, 4, none⟩ = false ∧ W.frozen? ⟨b, 5, none⟩ = false := by
  unfold Wb at h
  simp [World.frozen?, h]
theorem Wb.new (W : World) (x : Wn) : Wb (W.alloc (.cells (wcells x) 77)) W.heap.size x := heap_top W _
/-- Six stores. -/
abbrev put6 (W : World) (b : Nat) (x : Wn) : World := ((((((W.setCell ⟨b, 0, none⟩ (.int .i64 x.kind)).setCell ⟨b, 1, none⟩ (.int .i64 x.a)).setCell ⟨b, 2, none⟩ (.int .i64 x.b)).setCell ⟨b, 3, none⟩ (.int .i64 x.fr)).setCell ⟨b, 4, none⟩ (.int .i64 x.un)).setCell ⟨b, 5, none⟩ (.int .i64 x.rate))
theorem Wb.put {W : World} {b : Nat} {y : Wn} (x : Wn) (h : Wb W b y) : Wb (put6 W b x) b x := by
  have h6 := hset (i := 5) (.int .i64 x.rate) (hset (i := 4) (.int .i64 x.un) (hset (i := 3) (.int .i64 x.fr) (hset (i := 2) (.int .i64 x.b) (hset (i := 1) (.int .i64 x.a) (hset (i := 0) (.int .i64 x.kind) h)))))
  exact h6
theorem put6_oth {W : World} {b b' : Nat} {o : Obj} (x : Wn) (h : W.heap[b]? = some o) (hne : b ≠ b') : (put6 W b' x).heap[b]? = some o :=
  hoth _ (hoth _ (hoth _ (hoth _ (hoth _ (hoth _ h hne) hne) hne) hne) hne) hne
theorem put6_below {n₀ : Nat} {W : World} {b : Nat} (x : Wn) (hb : n₀ ≤ b) : Below n₀ W (put6 W b x) :=
  ((((((Below.refl n₀ W).setCell (p := ⟨b, 0, none⟩) hb _).setCell (p := ⟨b, 1, none⟩) hb _).setCell (p := ⟨b, 2, none⟩) hb _).setCell (p := ⟨b, 3, none⟩) hb _).setCell (p := ⟨b, 4, none⟩) hb _).setCell (p := ⟨b, 5, none⟩) hb _
theorem put6_keeps (W : World) (b : Nat) (x : Wn) : KeepsOthers W (put6 W b x) :=
  (((((KeepsOthers.setCell W _ _).trans (KeepsOthers.setCell _ _ _)).trans (KeepsOthers.setCell _ _ _)).trans (KeepsOthers.setCell _ _ _)).trans (KeepsOthers.setCell _ _ _)).trans (KeepsOthers.setCell _ _ _)
theorem own_wb {β : Type} {B : Nat} (b : Nat) (f : β → Wn) : OwnFrom B (fun s W => Wb W b (f s)) := fun s W W' row h hg hr => heap_own h rfl hg (fun r e => (hr r e).2)
theorem own_bx {β : Type} {B : Nat} (b : Nat) (t : TypeId) (f : β → Value) : OwnFrom B (fun s W => Boxed W b t (f s)) := fun s W W' row h hg hr => heap_own h rfl hg (fun r e => (hr r e).2)
theorem own_pure {β : Type} {B : Nat} (p : β → Prop) : OwnFrom B (fun s (_ : World) => p s) := fun _ _ _ _ hs _ _ => hs
/-- What first returns. -/
def fstV (T : List Wn) (p : Wn → Bool) : Value := .tuple #[((T.find? p).getD zw).v, .bool (T.find? p).isSome]
theorem all_nil {T : List Wn} {p : Wn → Bool} (h : all T p = []) : T.find? p = none := by
  have := all_map T p
  rw [h] at this
  rw [← List.head?_filter, ← this]
  rfl
theorem all_head {T : List Wn} {p : Wn → Bool} {x : El T p} (h : [x] <+: all T p) : T.find? p = some x.1 := by
  obtain ⟨r, hr⟩ := h
  have := all_map T p
  rw [← hr] at this
  rw [← List.head?_filter, ← this]
  rfl
set_option maxHeartbeats 4000000 in
theorem first_any (Bt Ba : Nat) (A : Option Addr) (cap : Nat) (T : List Wn) (p : Wn → Bool) (ag : Nat) (alb : Array Value) (w : World)
    (eg : ∀ args w, (callFunc ag args).run Try.prog w = .ok (.enter ag args) w) (hlen : T.length ≤ 140737488351232)
    (hA : Acc (fun _ => False) w T p ag alb) (hT : Sb w Bt (.slice A T.length cap)) (hF : Sb w Ba (.func (.func ag) #[] alb)) (hR : RdsWn w w.heap.size A T) :
    Calls Try.prog 63 #[.func (.func 66) #[] #[bp Bt, bp Ba]] w fun e w' => e = .returned (fstV T p) ∧ Below w.heap.size w w' := by
  refine (callsIn_wide (n := 3)).1 ?_
  refine callsIn_of_wp_marks Try.func63 rfl trivial ?_ rfl
  simp only [Try.ntmps63, List.size_toArray, List.length_cons, List.length_nil, Nat.reduceAdd, Nat.reduceSub, Array.replicate_succ, Array.replicate_zero, List.push_toArray, List.append_toArray, List.nil_append, List.cons_append]
  have hS := Lib.hid (where_stops 2 (by omega) Bt Ba A cap T p ag alb (fun _ => False) w eg hlen hA (fun W h => h.sb hT id) (fun W h => h.sb hF id) (fun W h => h.rds hR (Nat.le_refl _) (fun _ _ => id)))
  clear eg hlen hA hT hF hR
  gi_wp2
  obtain ⟨W0, hW0⟩ : ∃ W0, (w.alloc (.cells #[.int .i64 0, .int .i64 0, .int .i64 0, .int .i64 0, .int .i64 0, .int .i64 0] 77)).alloc (.cells #[.bool false] 4) = W0 := ⟨_, rfl⟩
  have z1 : Wb W0 w.heap.size zw := by rw [← hW0]; exact hup _ (Wb.new w zw)
  have z2 : Boxed W0 (w.heap.size + 1) 4 (.bool false) := by rw [← hW0]; have h := Boxed.new (w.alloc (.cells #[.int .i64 0, .int .i64 0, .int .i64 0, .int .i64 0, .int .i64 0, .int .i64 0] 77)) 4 (.bool false); rwa [World.size_alloc] at h
  have hB0 : Below w.heap.size w W0 := by rw [← hW0]; exact bel2 w _ _
  have hsz : W0.heap.size = w.heap.size + 2 := by rw [← hW0]; simp
  rw [hW0]
  clear hW0
  refine wpIn_rangeFunc_ownH rfl (by omega) (gf := 66) (lb := #[bp Bt, bp Ba]) rfl trivial (enters_of Try.func66 (by kernel_rfl) rfl) hS.out Kf.trans (Kf.b (by omega)) hB0 (fun _ => rfl)
    (fun pre W => ((pre = [] ∧ Wb W w.heap.size zw) ∧ Boxed W (w.heap.size + 1) 4 (.bool false)) ∧ Below w.heap.size w W)
    (fun c pre W => ((∃ x, (c = .ret ∧ pre = [x]) ∧ Wb W w.heap.size x.1) ∧ Boxed W (w.heap.size + 1) 4 (.bool true)) ∧ Below w.heap.size w W)
    (OwnFrom.and (OwnFrom.and (OwnFrom.and (own_pure _) (own_wb _ (fun _ => zw))) (own_bx _ _ _)) (ownFrom_below (Nat.le_refl _) (by omega)))
    (fun c => OwnFrom.and (OwnFrom.and (fun s X Y row hs hg hr => by obtain ⟨x, h1, h2⟩ := hs; exact ⟨x, h1, heap_own h2 rfl hg (fun r e => (hr r e).2)⟩) (own_bx _ _ _)) (ownFrom_below (Nat.le_refl _) (by omega)))
    ⟨⟨⟨rfl, z1⟩, z2⟩, hB0⟩
    (fun x a' W => ∃ Bx, w.heap.size + 1 < Bx ∧ Wb W Bx x.1 ∧ a' = { tmps := #[.func (.func 66) #[] #[bp Bt, bp Ba], undef, bp w.heap.size, bp (w.heap.size + 1), bp Bx, .func (.func 66) #[] #[bp Bt, bp Ba], x.1.v, undef, undef], defers := [] })
    (fun x a' _ X Y row hs hg hr => by obtain ⟨Bx, h1, h2, h3⟩ := hs; exact ⟨Bx, h1, heap_own h2 rfl hg (fun r e => (hr r e).2), h3⟩)
    ?assign ?body ?done ?stop
  case assign =>
    rintro l pre x W K ⟨⟨⟨hp, y1⟩, y2⟩, hB⟩ hK
    have hsW := hB.size
    have hlt2 := y2.lt
    gi_wp2
    exact hK _ _ ((KeepsOthers.alloc _ _).from _) (Kf.of ((Below.refl _ W).alloc hsW _) (Nat.le_refl _)) ⟨⟨⟨hp, hup _ y1⟩, y2.alloc _⟩, hB.alloc hsW _⟩ ⟨W.heap.size, hlt2, Wb.new W x.1, rfl⟩
  case body =>
    rintro l pre x a' W hl ⟨r, hr⟩ ⟨⟨⟨rfl, y1⟩, y2⟩, hB⟩ ⟨Bx, hBx, bX, rfl⟩ hlt
    have n0 := bX.bx.c0
    have n1 := bX.bx.c1
    have n2 := bX.bx.c2
    have n3 := bX.bx.c3
    have n4 := bX.bx.c4
    have n5 := bX.bx.c5
    have m0 := y1.bx.c0
    have m1 := y1.bx.c1
    have m2 := y1.bx.c2
    have m3 := y1.bx.c3
    have m4 := y1.bx.c4
    have m5 := y1.bx.c5
    obtain ⟨f0, f1, f2, f3, f4, f5⟩ := y1.fz
    have d0 := y2.cell
    have d1 := y2.frozen
    gi_wp2
    refine ⟨((put6_keeps W w.heap.size x.1).trans (KeepsOthers.setCell _ _ _)).from _, ⟨⟨x, ⟨rfl, rfl⟩, hoth _ (y1.put x.1) (by omega)⟩, Boxed.set _ (put6_oth x.1 y2 (by omega))⟩, ?_⟩
    exact (hB.trans (put6_below x.1 (Nat.le_refl _))).setCell (p := ⟨w.heap.size + 1, 0, none⟩) (by simp) _
  case done =>
    rintro D zs W hD rfl ⟨⟨⟨hp, y1⟩, y2⟩, hB⟩ hK
    have hv : fstV T p = .tuple #[zw.v, .bool false] := by unfold fstV; rw [all_nil hp]; rfl
    have HV := Lib.hid hv
    clear hv
    have m0 := y1.bx.c0
    have m1 := y1.bx.c1
    have m2 := y1.bx.c2
    have m3 := y1.bx.c3
    have m4 := y1.bx.c4
    have m5 := y1.bx.c5
    obtain ⟨f0, f1, f2, f3, f4, f5⟩ := y1.fz
    have d0 := y2.cell
    have d1 := y2.frozen
    gi_wp2
    obtain ⟨V, hV⟩ : ∃ V, V = ((((((W.setCell ⟨w.heap.size, 0, none⟩ (.int .i64 0)).setCell ⟨w.heap.size, 1, none⟩ (.int .i64 0)).setCell ⟨w.heap.size, 2, none⟩ (.int .i64 0)).setCell ⟨w.heap.size, 3, none⟩ (.int .i64 0)).setCell ⟨w.heap.size, 4, none⟩ (.int .i64 0)).setCell ⟨w.heap.size, 5, none⟩ (.int .i64 0)).setCell ⟨w.heap.size + 1, 0, none⟩ (.bool false) := ⟨_, rfl⟩
    rw [← hV]
    have hK' : V.heap[D]? = some (.deferred (some [])) := by rw [hV]; exact ((put6_keeps W w.heap.size zw).trans (KeepsOthers.setCell _ ⟨w.heap.size + 1, 0, none⟩ (.bool false))).same D _ hK rfl
    have g1 : Wb V w.heap.size zw := by rw [hV]; exact hoth _ (y1.put zw) (by omega)
    have g2 : Boxed V (w.heap.size + 1) 4 (.bool false) := by rw [hV]; exact Boxed.set _ (put6_oth zw y2 (by omega))
    have hB3 : Below w.heap.size w V := by rw [hV]; exact (hB.trans (put6_below zw (Nat.le_refl _))).setCell (p := ⟨w.heap.size + 1, 0, none⟩) (by simp) _
    clear hV
    refine ⟨by simp, .inl ⟨_, _, rfl, run_takeDeferred hK', ?_⟩⟩
    have h1 : Wb (V.putObj D (.deferred none)) w.heap.size zw := heap_own g1 rfl (grownBy_putObj' V D (.deferred none)) (fun r e => by cases e; exact ⟨_, hK', rfl⟩)
    have h2 : Boxed (V.putObj D (.deferred none)) (w.heap.size + 1) 4 (.bool false) := heap_own g2 rfl (grownBy_putObj' V D (.deferred none)) (fun r e => by cases e; exact ⟨_, hK', rfl⟩)
    have e0 := h1.bx.c0
    have e1 := h1.bx.c1
    have e2 := h1.bx.c2
    have e3 := h1.bx.c3
    have e4 := h1.bx.c4
    have e5 := h1.bx.c5
    have e6 := h2.cell
    refine ⟨.tuple #[zw.v, .bool false], ?_, congrArg Ending.returned HV.out.symm, hB3.trans (belowK_b (w := w) (Nat.le_refl _) _ D _ _ (by omega) hK' rfl rfl)⟩
    simp [results, Try.results63, go_sem, e0, e1, e2, e3, e4, e5, e6]
  case stop =>
    rintro D c pre W hD hpre ⟨⟨⟨x, ⟨rfl, rfl⟩, y1⟩, y2⟩, hB⟩ hK
    have hv : fstV T p = .tuple #[x.1.v, .bool true] := by unfold fstV; rw [all_head hpre]; rfl
    have HV := Lib.hid hv
    clear hv
    gi_wp2
    refine ⟨by simp, .inl ⟨_, _, rfl, run_takeDeferred hK, ?_⟩⟩
    have h1 : Wb (W.putObj D (.deferred none)) w.heap.size x.1 := heap_own y1 rfl (grownBy_putObj' W D (.deferred none)) (fun r e => by cases e; exact ⟨_, hK, rfl⟩)
    have h2 : Boxed (W.putObj D (.deferred none)) (w.heap.size + 1) 4 (.bool true) := heap_own y2 rfl (grownBy_putObj' W D (.deferred none)) (fun r e => by cases e; exact ⟨_, hK, rfl⟩)
    have e0 := h1.bx.c0
    have e1 := h1.bx.c1
    have e2 := h1.bx.c2
    have e3 := h1.bx.c3
    have e4 := h1.bx.c4
    have e5 := h1.bx.c5
    have e6 := h2.cell
    refine ⟨.tuple #[x.1.v, .bool true], ?_, congrArg Ending.returned HV.out.symm, hB.trans (belowK_b (w := w) (Nat.le_refl _) _ D _ _ (by omega) hK rfl rfl)⟩
    simp [results, Try.results63, go_sem, e0, e1, e2, e3, e4, e5, e6]
end Q
end Go.Proofs.Ytobbnbelacncjaa
