/-
  The landed Ticks.
-/
import Derived.Test.YtobbnbelacncjaaQChk2
namespace Go.Proofs.Ytobbnbelacncjaa
open Go.RowKit Go.Shelf
attribute [local go_sem] Oper.semAt_some
namespace Q
open H
set_option linter.unusedVariables false
set_option linter.unusedSimpArgs false
set_option maxRecDepth 100000
/-- How much of a period a window covers. -/
def cov (f u : Int) (x : Wn) : Int := if max x.fr f < min x.un u then min x.un u - max x.fr f else 0
def sumI : List Int → Int
  | [] => 0
  | z :: zs => z + sumI zs
theorem sumI_snoc (l : List Int) (z : Int) : sumI (l ++ [z]) = sumI l + z := by
  induction l with
  | nil => simp [sumI]
  | cons y l ih => simp only [List.cons_append, sumI, ih]; omega
theorem sumI_bd (l : List Int) {c : Int} (h : ∀ z ∈ l, 0 ≤ z ∧ z ≤ c) : 0 ≤ sumI l ∧ sumI l ≤ l.length * c := by
  induction l with
  | nil => simp [sumI]
  | cons y l ih =>
    have h1 := h y (by simp)
    have h2 := ih fun z hz => h z (by simp [hz])
    simp only [sumI, List.length_cons]
    rw [show (((l.length + 1 : Nat)) : Int) * c = (l.length : Int) * c + c by rw [Int.natCast_add, Int.add_mul]; simp]
    omega
def tick (T : List Wn) (k a b f u : Int) : Int := sumI ((T.filter (pTicks k a b)).map (cov f u))
/-- Windows whose ticks are ticks. -/
structure Tok (x : Wn) : Prop where
  fr : 0 ≤ x.fr ∧ x.fr ≤ 1000000
  un : 0 ≤ x.un ∧ x.un ≤ 1000000
theorem cov_bd {x : Wn} (h : Tok x) (f u : Int) : 0 ≤ cov f u x ∧ cov f u x ≤ 1000000 := by
  have h1 := h.fr
  have h2 := h.un
  unfold cov
  split <;> omega
def cs (f u : Int) {T : List Wn} {p : Wn → Bool} (pre : List (El T p)) : Int := sumI (pre.map fun x => cov f u x.1)
theorem cs_snoc (f u : Int) {T : List Wn} {p : Wn → Bool} (pre : List (El T p)) (x : El T p) : cs f u (pre ++ [x]) = cs f u pre + cov f u x.1 := by
  unfold cs
  rw [List.map_append]
  exact sumI_snoc _ _
theorem cs_all (T : List Wn) (p : Wn → Bool) (f u : Int) : cs f u (all T p) = sumI ((T.filter p).map (cov f u)) := by
  unfold cs
  rw [← all_map]
  simp [List.map_map]
theorem cs_bd {T : List Wn} {p : Wn → Bool} (hT : ∀ x ∈ T, Tok x) (f u : Int) (pre : List (El T p)) : 0 ≤ cs f u pre ∧ cs f u pre ≤ pre.length * 1000000 := by
  have h := sumI_bd (pre.map fun x => cov f u x.1) (c := 1000000) (by
    intro z hz
    obtain ⟨x, _, rfl⟩ := List.mem_map.1 hz
    exact cov_bd (hT x.1 x.2.1) f u)
  rw [List.length_map] at h
  exact h
abbrev s1 (w : World) : Nat := w.heap.size
set_option maxHeartbeats 4000000 in
theorem pticks_any (T : List Wn) (A : Option Addr) (cap B : Nat) (k a b f u : Int) (w : World) (hB : B ≤ w.heap.size) (hlen : T.length ≤ 1000) (hT : ∀ x ∈ T, Tok x) (hR : RdsWn w B A T) :
    Calls Try.prog 31 #[.slice A T.length cap, .int .i64 k, .int .i64 a, .int .i64 b, .int .i64 f, .int .i64 u] w fun e w' => e = .returned (.int .i64 (tick T k a b f u)) ∧ Below w.heap.size w w' := by
  obtain ⟨W6, hW6⟩ : ∃ W6, W6 = (((((w.alloc (.cells #[.int .i64 k] 3)).alloc (.cells #[.int .i64 a] 3)).alloc (.cells #[.int .i64 b] 3)).alloc (.cells #[.int .i64 f] 3)).alloc (.cells #[.int .i64 u] 3)).alloc (.cells #[.int .i64 0] 3) := ⟨_, rfl⟩
  have i1 : Ib W6 w.heap.size k := by rw [hW6]; exact (((((ib_new w k _).call (bel1 _ _)).call (bel1 _ _)).call (bel1 _ _)).call (bel1 _ _)).call (bel1 _ _)
  have i2 : Ib W6 (w.heap.size + 1) a := by rw [hW6]; have h := (((((ib_new (w.alloc (.cells #[.int .i64 k] 3)) a 3).call (bel1 _ (.cells #[.int .i64 b] 3))).call (bel1 _ (.cells #[.int .i64 f] 3))).call (bel1 _ (.cells #[.int .i64 u] 3)))).call (bel1 _ (.cells #[.int .i64 0] 3)); simpa using h
  have i3 : Ib W6 (w.heap.size + 1 + 1) b := by rw [hW6]; have h := ((((ib_new ((w.alloc (.cells #[.int .i64 k] 3)).alloc (.cells #[.int .i64 a] 3)) b 3).call (bel1 _ (.cells #[.int .i64 f] 3))).call (bel1 _ (.cells #[.int .i64 u] 3)))).call (bel1 _ (.cells #[.int .i64 0] 3)); simpa using h
  have z4 : Boxed W6 (w.heap.size + 1 + 1 + 1) 3 (.int .i64 f) := by rw [hW6]; have h := ((Boxed.new (((w.alloc (.cells #[.int .i64 k] 3)).alloc (.cells #[.int .i64 a] 3)).alloc (.cells #[.int .i64 b] 3)) 3 (.int .i64 f)).alloc (.cells #[.int .i64 u] 3)).alloc (.cells #[.int .i64 0] 3); simpa using h
  have z5 : Boxed W6 (w.heap.size + 1 + 1 + 1 + 1) 3 (.int .i64 u) := by rw [hW6]; have h := (Boxed.new ((((w.alloc (.cells #[.int .i64 k] 3)).alloc (.cells #[.int .i64 a] 3)).alloc (.cells #[.int .i64 b] 3)).alloc (.cells #[.int .i64 f] 3)) 3 (.int .i64 u)).alloc (.cells #[.int .i64 0] 3); simpa using h
  have z6 : Boxed W6 (w.heap.size + 1 + 1 + 1 + 1 + 1) 3 (.int .i64 0) := by rw [hW6]; have h := Boxed.new (((((w.alloc (.cells #[.int .i64 k] 3)).alloc (.cells #[.int .i64 a] 3)).alloc (.cells #[.int .i64 b] 3)).alloc (.cells #[.int .i64 f] 3)).alloc (.cells #[.int .i64 u] 3)) 3 (.int .i64 0); simpa using h
  have bel : Below w.heap.size w W6 := by rw [hW6]; exact bt (bt (bel2 w _ _) (bel2 _ _ _)) (bel2 _ _ _)
  have hsz : W6.heap.size = w.heap.size + 1 + 1 + 1 + 1 + 1 + 1 := by rw [hW6]; simp
  have hwh := where_any A T.length cap 47 #[bp w.heap.size, bp (w.heap.size + 1), bp (w.heap.size + 1 + 1)] W6
  have HST := Lib.hid (fun (W : World) (hW : Below W6.heap.size W6 W) Bt Ba hs1 hs2 (n1 : Bt ≠ w.heap.size + 1 + 1 + 1 + 1 + 1) (n2 : Ba ≠ w.heap.size + 1 + 1 + 1 + 1 + 1) => where_stops 2 (by omega) Bt Ba A cap T (pTicks k a b) 47 #[bp w.heap.size, bp (w.heap.size + 1), bp (w.heap.size + 1 + 1)] (fun b => b = w.heap.size + 1 + 1 + 1 + 1 + 1) W (enters_of Try.func47 (by kernel_rfl) rfl) (by omega)
    (acc_Ticks _ T k a b _ _ _ W (by omega) (by omega) (by omega) (i1.call hW) (i2.call hW) (i3.call hW)) (fun V h => h.sb hs1 n1) (fun V h => h.sb hs2 n2) (fun V h => h.rds (hR.below ((bel.mono hB).trans (hW.mono (by omega)))) (by have := hW.size; have := bel.size; omega) (fun b hb => by omega)))
  have HWH := Lib.hid hwh
  have HW6 := Lib.hid hW6
  have HTK := Lib.hid hT
  have HV : Hid (tick T k a b f u = cs f u (all T (pTicks k a b))) := Lib.hid (by rw [cs_all]; rfl)
  have HSZ := Lib.hid hsz
  clear hwh i1 i2 i3 hR hT hW6 hsz
  generalize tick T k a b f u = res at *
  generalize hl : T.length = len at *
  have HL := Lib.hid hl
  clear hl
  refine (callsIn_wide (n := 3)).1 ?_
  refine callsIn_of_wp_marks Try.func31 rfl trivial ?_ rfl
  simp only [Try.ntmps31, List.size_toArray, List.length_cons, List.length_nil, Nat.reduceAdd, Nat.reduceSub, Array.replicate_succ, Array.replicate_zero, List.push_toArray, List.append_toArray, List.nil_append, List.cons_append]
  gi_wp2_with (refine ⟨trivial, ?_⟩; gi_at_call 46; rw [← HW6.out]; refine (callsIn_wide.2 HWH.out).mono ?_; rintro e W0 ⟨rfl, t1, t2, hB0, hsz0⟩; have HSZ0 := Lib.hid hsz0; clear hsz0; have HS := Lib.hid (HST.out W0 hB0 _ _ t1 t2 (by have := HSZ.out; omega) (by have := HSZ.out; omega)))
  have hBW := Lib.hid (bt bel hB0)
  have y4 := heap_keep hB0 z4
  have y5 := heap_keep hB0 z5
  have y6 := heap_keep hB0 z6
  clear t1 t2 z4 z5 z6
  refine wpIn_rangeFunc_ownH rfl (by omega) (gf := 66) (lb := #[bp W6.heap.size, bp (W6.heap.size + 1)]) rfl trivial (enters_of Try.func66 (by kernel_rfl) rfl) HS.out Kf.trans (Kf.b (Nat.le_refl _)) (Below.refl _ _) (fun _ => rfl)
    (fun pre W => ((Boxed W (w.heap.size + 1 + 1 + 1) 3 (.int .i64 f) ∧ Boxed W (w.heap.size + 1 + 1 + 1 + 1) 3 (.int .i64 u)) ∧ Boxed W (w.heap.size + 1 + 1 + 1 + 1 + 1) 3 (.int .i64 (cs f u pre))) ∧ (Below w.heap.size w W ∧ W0.heap.size ≤ W.heap.size))
    (fun _ _ _ => False)
    (OwnFrom.and (OwnFrom.and (OwnFrom.and (own_bx _ _ _) (own_bx _ _ _)) (own_bx _ _ _)) (OwnFrom.and (ownFrom_below (Nat.le_refl _) hBW.out.size) (fun _ _ _ _ hs hg _ => Nat.le_trans hs hg.size)))
    (fun _ _ _ _ _ hs _ _ => hs)
    ⟨⟨⟨y4, y5⟩, y6⟩, hBW.out, Nat.le_refl _⟩
    (fun x a' W => ∃ Bx, W0.heap.size ≤ Bx ∧ Wb W Bx x.1 ∧ a' = { tmps := #[.slice A len cap, .int .i64 k, .int .i64 a, .int .i64 b, .int .i64 f, .int .i64 u, undef, bp (w.heap.size), bp (w.heap.size + 1), bp (w.heap.size + 1 + 1), bp (w.heap.size + 1 + 1 + 1), bp (w.heap.size + 1 + 1 + 1 + 1), .int .i64 0, bp (w.heap.size + 1 + 1 + 1 + 1 + 1), bp Bx, undef, undef, .slice A len cap, .func (.func 47) #[] #[bp w.heap.size, bp (w.heap.size + 1), bp (w.heap.size + 1 + 1)], .func (.func 66) #[] #[bp W6.heap.size, bp (W6.heap.size + 1)], x.1.v, undef, undef, undef, undef, undef, undef, undef, undef, undef, undef, undef, undef, undef, undef, undef, undef, undef], defers := [] })
    (fun x a' _ X Y row hs hg hr => by obtain ⟨Bx, h1, h2, h3⟩ := hs; exact ⟨Bx, h1, heap_own h2 rfl hg (fun r e => (hr r e).2), h3⟩)
    ?assign ?body ?done ?stop
  case assign =>
    rintro l pre x W K ⟨⟨⟨q4, q5⟩, q6⟩, hB, hge⟩ hK
    have hsW := hB.size
    gi_wp2
    exact hK _ _ ((KeepsOthers.alloc _ _).from _) (Kf.of ((Below.refl _ W).alloc hge _) (Nat.le_refl _)) ⟨⟨⟨q4.alloc _, q5.alloc _⟩, q6.alloc _⟩, hB.alloc hsW _, by simp; omega⟩ ⟨W.heap.size, hge, Wb.new W x.1, rfl⟩
  case body =>
    rintro l pre x a' W hl ⟨r, hr⟩ ⟨⟨⟨q4, q5⟩, q6⟩, hB, hge⟩ ⟨Bx, hBx, bX, rfl⟩ hlt
    have tok := HTK.out x.1 x.2.1
    have hcb := cs_bd HTK.out f u pre
    have hcv := cov_bd tok f u
    have hce : cov f u x.1 = if max x.1.fr f < min x.1.un u then min x.1.un u - max x.1.fr f else 0 := rfl
    have hsn := cs_snoc f u pre x
    have hfr := tok.fr
    have hun := tok.un
    have hpl : (pre.length : Int) ≤ 1000 := by omega
    have n3 := bX.bx.c3
    have n4 := bX.bx.c4
    have d4 := q4.cell
    have d5 := q5.cell
    have d6 := q6.cell
    have f6 := q6.frozen
    have QS := Lib.hid (And.intro q4 (And.intro q5 q6))
    have QB := Lib.hid hB
    have QG := Lib.hid hge
    clear q4 q5 q6 hB hge tok hr bX
    obtain ⟨⟨xk, xa, xb, xf, xu, xr⟩, hx⟩ := x
    dsimp only at *
    gi_wp2
    refine wpIn_region_held_round (S := fun W' => W'.cell? ⟨Bx, 3, none⟩ = some (.int .i64 xf) ∧ W'.cell? ⟨Bx, 4, none⟩ = some (.int .i64 xu) ∧ W'.cell? ⟨w.heap.size + 1 + 1 + 1, 0, none⟩ = some (.int .i64 f) ∧ W'.cell? ⟨w.heap.size + 1 + 1 + 1 + 1, 0, none⟩ = some (.int .i64 u)) (fun ⟨_, _, h⟩ => h) rfl (by kernel_rfl) ⟨n3, n4, d4, d5⟩ (fun hHeld => ?_)
    refine wpAnyH_take (i := 0) (oi := { dst := some 21, op := _, type := _, pos := _, after := _, guard := _ }) (v := ?_) rfl (by kernel_rfl) (by kernel_rfl) (by kernel_rfl) (fun _ _ _ h => h) (Or.inl ⟨by rfl, ?_⟩) (by assumption) ?_
    rotate_left
    · (intro w hSw; (try dsimp only at hSw); go_simp)
      first | done | with_reducible rfl
    try simp only [Act.put, List.setIfInBounds_toArray, List.set_cons_zero, List.set_cons_succ]
    refine wpAnyH_take (i := 1) (oi := { dst := some 22, op := _, type := _, pos := _, after := _, guard := _ }) (v := ?_) rfl (by kernel_rfl) (by kernel_rfl) (by kernel_rfl) (fun _ _ _ h => h) (Or.inl ⟨by rfl, ?_⟩) (by assumption) ?_
    rotate_left
    · (intro w hSw; (try dsimp only at hSw); go_simp)
      first | done | with_reducible rfl
    try simp only [Act.put, List.setIfInBounds_toArray, List.set_cons_zero, List.set_cons_succ]
    refine wpAnyH_take (i := 2) (oi := { dst := some 23, op := _, type := _, pos := _, after := _, guard := _ }) (v := ?_) rfl (by kernel_rfl) (by kernel_rfl) (by kernel_rfl) (fun _ _ _ h => h) (Or.inl ⟨by rfl, ?_⟩) (by assumption) ?_
    rotate_left
    · (intro w hSw; (try dsimp only at hSw); go_simp)
      first | done | with_reducible rfl
    try simp only [Act.put, List.setIfInBounds_toArray, List.set_cons_zero, List.set_cons_succ]
    refine wpAnyH_take (i := 3) (oi := { dst := some 24, op := _, type := _, pos := _, after := _, guard := _ }) (v := ?_) rfl (by kernel_rfl) (by kernel_rfl) (by kernel_rfl) (fun _ _ _ h => h) (Or.inl ⟨by rfl, ?_⟩) (by assumption) ?_
    rotate_left
    · (intro w hSw; (try dsimp only at hSw); go_simp)
      first | done | with_reducible rfl
    try simp only [Act.put, List.setIfInBounds_toArray, List.set_cons_zero, List.set_cons_succ]
    refine wpAnyH_take (i := 4) (oi := { dst := some 25, op := _, type := _, pos := _, after := _, guard := _ }) (v := ?_) rfl (by kernel_rfl) (by kernel_rfl) (by kernel_rfl) (fun _ _ _ h => h) (Or.inl ⟨by rfl, ?_⟩) (by assumption) ?_
    rotate_left
    · (intro w hSw; (try dsimp only at hSw); go_simp)
      first | done | with_reducible rfl
    try simp only [Act.put, List.setIfInBounds_toArray, List.set_cons_zero, List.set_cons_succ]
    refine wpAnyH_take (i := 5) (oi := { dst := some 26, op := _, type := _, pos := _, after := _, guard := _ }) (v := ?_) rfl (by kernel_rfl) (by kernel_rfl) (by kernel_rfl) (fun _ _ _ h => h) (Or.inl ⟨by rfl, ?_⟩) (by assumption) ?_
    rotate_left
    · (intro w hSw; (try dsimp only at hSw); go_simp)
      first | done | with_reducible rfl
    try simp only [Act.put, List.setIfInBounds_toArray, List.set_cons_zero, List.set_cons_succ]
    refine wpAnyH_take (i := 6) (oi := { dst := some 27, op := _, type := _, pos := _, after := _, guard := _ }) (v := ?_) rfl (by kernel_rfl) (by kernel_rfl) (by kernel_rfl) (fun _ _ _ h => h) (Or.inl ⟨by rfl, ?_⟩) (by assumption) ?_
    rotate_left
    · (intro w hSw; (try dsimp only at hSw); go_simp)
      first | done | with_reducible rfl
    try simp only [Act.put, List.setIfInBounds_toArray, List.set_cons_zero, List.set_cons_succ]
    refine wpAnyH_take (i := 7) (oi := { dst := some 28, op := _, type := _, pos := _, after := _, guard := _ }) (v := ?_) rfl (by kernel_rfl) (by kernel_rfl) (by kernel_rfl) (fun _ _ _ h => h) (Or.inl ⟨by rfl, ?_⟩) (by assumption) ?_
    rotate_left
    · (intro w hSw; (try dsimp only at hSw); go_simp)
      first | done | with_reducible rfl
    try simp only [Act.put, List.setIfInBounds_toArray, List.set_cons_zero, List.set_cons_succ]
    refine wpAnyH_take (i := 8) (oi := { dst := some 15, op := _, type := _, pos := _, after := _, guard := _ }) (v := ?_) rfl (by kernel_rfl) (by kernel_rfl) (by kernel_rfl) (fun _ _ _ h => h) (Or.inl ⟨by rfl, ?_⟩) (by assumption) ?_
    rotate_left
    · (intro w hSw; (try dsimp only at hSw); go_simp)
      first | done | with_reducible rfl
    try simp only [Act.put, List.setIfInBounds_toArray, List.set_cons_zero, List.set_cons_succ]
    refine wpAnyH_take (i := 9) (oi := { dst := some 16, op := _, type := _, pos := _, after := _, guard := _ }) (v := ?_) rfl (by kernel_rfl) (by kernel_rfl) (by kernel_rfl) (fun _ _ _ h => h) (Or.inl ⟨by rfl, ?_⟩) (by assumption) ?_
    rotate_left
    · (intro w hSw; (try dsimp only at hSw); go_simp)
      first | done | with_reducible rfl
    try simp only [Act.put, List.setIfInBounds_toArray, List.set_cons_zero, List.set_cons_succ]
    refine wpAnyH_done (by kernel_rfl) ?_ _
    generalize hM : max xf f = M at *
    generalize hm : min xu u = m at *
    have HKD := Lib.hid (KeepsOthers.drew W)
    clear hHeld
    by_cases hc : M < m
    · rw [if_pos hc] at hce
      have hsn2 : cs f u pre + (m - M) = cs f u (pre ++ [⟨⟨xk, xa, xb, xf, xu, xr⟩, hx⟩]) := by rw [hsn, hce]
      have HSN := Lib.hid hsn2
      have hb1 : 0 ≤ m - M ∧ m - M ≤ 1000000 := by omega
      have hb2 : 0 ≤ cs f u pre ∧ cs f u pre ≤ 1000000000 := by omega
      have h63 : wrap64 (cs f u pre + (m - M)) = cs f u pre + (m - M) := IntWalk.wrap64_in _ (by omega)
      clear hsn2 hsn hce hcv hcb hM hm
      generalize cs f u pre = cc at *
      gi_wp2
      obtain ⟨y4, y5, y6⟩ := QS.out
      refine ⟨((KeepsOthers.drew W).trans (KeepsOthers.setCell _ _ _)).from _, (Kf.of ((Below.refl _ W).drew) (Nat.le_refl _)).trans (Kf.set _ rfl), ⟨⟨Boxed.other (W := W.drew) y4 (by omega) _, Boxed.other (W := W.drew) y5 (by omega) _⟩, ?_⟩, (QB.out.drew).setCell (p := ⟨w.heap.size + 1 + 1 + 1 + 1 + 1, 0, none⟩) (by simp; omega) _, by have := QG.out; have := (KeepsOthers.setCell W.drew ⟨w.heap.size + 1 + 1 + 1 + 1 + 1, 0, none⟩ (.int .i64 (cc + (m - M)))).size; simp at *; omega⟩
      rw [← HSN.out]
      exact Boxed.set (W := W.drew) _ y6
    · rw [if_neg hc] at hce
      have hsn2 : cs f u pre = cs f u (pre ++ [⟨⟨xk, xa, xb, xf, xu, xr⟩, hx⟩]) := by rw [hsn, hce, Int.add_zero]
      have HSN := Lib.hid hsn2
      clear hsn2 hsn hce hcv hcb hM hm
      generalize cs f u pre = cc at *
      gi_wp2
      obtain ⟨y4, y5, y6⟩ := QS.out
      refine ⟨(KeepsOthers.drew W).from _, Kf.of ((Below.refl _ W).drew) (Nat.le_refl _), ⟨⟨y4, y5⟩, ?_⟩, QB.out.drew, QG.out⟩
      rw [← HSN.out]
      exact y6
  case done =>
    rintro D zs W hD rfl ⟨⟨⟨q4, q5⟩, q6⟩, hB, hge⟩ hK
    rw [← HV.out] at q6
    have d6 := q6.cell
    gi_wp2
    refine ⟨by simp, .inl ⟨_, _, rfl, run_takeDeferred hK, ?_⟩⟩
    exact ⟨_, results_tmp rfl _ _ _, rfl, hB.trans (belowK_b (w := w) (Nat.le_refl _) W D _ _ (by have := hBW.out.size; omega) hK rfl rfl)⟩
  case stop =>
    rintro D c pre W hD _ h _
    exact h.elim
end Q
end Go.Proofs.Ytobbnbelacncjaa
