/-
  The landed Survives.
-/
import Derived.Test.YtobbnbelacncjaaPwRes
import Derived.Test.YtobbnbelacncjaaPwBat
namespace Go.Proofs.Ytobbnbelacncjaa
open Go.RowKit Go.Shelf
attribute [local go_sem] Oper.semAt_some
namespace Pw
open H
set_option linter.unusedVariables false
set_option linter.unusedSimpArgs false
set_option maxRecDepth 100000
theorem svF_snoc (e cap : Int) (y : Int × Int) : ∀ (l : List (Int × Int)) (c : Int), svF e cap (l ++ [y]) c = (svF e cap l c).bind fun d => svF e cap [y] d
  | [], c => by show svF e cap [y] c = _; rfl
  | x :: l, c => by
    show (if _ then none else svF e cap (l ++ [y]) _) = (if _ then none else svF e cap l _).bind _
    split
    · rfl
    · exact svF_snoc e cap y l _
theorem svF_step {e cap : Int} {ys : List (Int × Int)} {c0 c : Int} {y : Int × Int} {k : Nat} (h : ys[k]? = some y) (hc : svF e cap (ys.take k) c0 = some c) :
    svF e cap (ys.take (k + 1)) c0 = if min (min (c + y.2) cap - e + (y.1 - 1) * (y.2 - e)) (cap - e) < 0 then none else some (min (min (c + y.2) cap - e + (y.1 - 1) * (y.2 - e)) (cap - e)) := by
  rw [List.take_add_one, h, Option.toList_some, svF_snoc, hc]
  rfl
theorem svF_app_none (e cap : Int) : ∀ (l m : List (Int × Int)) (c : Int), svF e cap l c = none → svF e cap (l ++ m) c = none
  | [], m, c, h => by cases h
  | x :: l, m, c, h => by
    show (if _ then none else svF e cap (l ++ m) _) = none
    have h' : (if min (min (c + x.2) cap - e + (x.1 - 1) * (x.2 - e)) (cap - e) < 0 then none else svF e cap l (min (min (c + x.2) cap - e + (x.1 - 1) * (x.2 - e)) (cap - e))) = none := h
    split at h'
    · rename_i hn; rw [if_pos hn]
    · rename_i hn; rw [if_neg hn]; exact svF_app_none e cap l m _ h'
theorem svF_none {e cap : Int} {ys : List (Int × Int)} {c : Int} {k : Nat} (h : svF e cap (ys.take k) c = none) : svF e cap ys c = none := by
  have := svF_app_none e cap (ys.take k) (ys.drop k) c h
  rwa [List.take_append_drop] at this
set_option maxHeartbeats 4000000 in
theorem psurv_any (b : Bt) (T : List Q.Wn) (A : Option Addr) (cap B : Nat) (a f u e sun : Int) (w : World) (hB : B ≤ w.heap.size) (hlen : T.length ≤ 1000) (hb : b.cap ≤ 2147483647 ∧ 0 ≤ b.chg ∧ b.chg ≤ b.cap) (hf : 0 ≤ f ∧ f ≤ 1000001) (hu : 0 ≤ u ∧ u ≤ 1000001) (he : 0 ≤ e ∧ e ≤ 2147483647) (hs : 0 ≤ sun ∧ sun ≤ 2147483647) (hT : ∀ x ∈ T, Q.Tok x) (hO : SrtF T) (hR : Q.RdsWn w B A T) :
    Calls Try.prog 29 #[b.v, .slice A T.length cap, .int .i64 a, .int .i64 f, .int .i64 u, .int .i64 e, .int .i64 sun] w fun o w' => o = .returned (.bool (sv T a e sun b.cap f b.chg (u - f).toNat).isSome) ∧ Below w.heap.size w w' := by
  obtain ⟨bc, bg, br⟩ := b
  dsimp only at *
  obtain ⟨W3, hW3⟩ : ∃ W3, W3 = (((w.alloc (.cells #[.int .i64 bc, .int .i64 bg, .int .i64 br] 23)).alloc (.cells #[.int .i64 e] 3)).alloc (.cells #[.bool false] 4)).alloc (.cells #[.int .i64 bg] 3) := ⟨_, rfl⟩
  have z0 : W3.heap[w.heap.size]? = some (.cells #[.int .i64 bc, .int .i64 bg, .int .i64 br] 23 (0, 0)) := by rw [hW3]; exact heap_keep (bel1 _ _) (heap_keep (bel1 _ _) (heap_keep (bel1 _ _) (heap_top w _)))
  have z1 : Boxed W3 (w.heap.size + 1) 3 (.int .i64 e) := by rw [hW3]; have h := ((Boxed.new (w.alloc (.cells #[.int .i64 bc, .int .i64 bg, .int .i64 br] 23)) 3 (.int .i64 e)).alloc (.cells #[.bool false] 4)).alloc (.cells #[.int .i64 bg] 3); rwa [World.size_alloc] at h
  have z2 : Boxed W3 (w.heap.size + 1 + 1) 4 (.bool false) := by rw [hW3]; have h := (Boxed.new ((w.alloc (.cells #[.int .i64 bc, .int .i64 bg, .int .i64 br] 23)).alloc (.cells #[.int .i64 e] 3)) 4 (.bool false)).alloc (.cells #[.int .i64 bg] 3); rwa [World.size_alloc, World.size_alloc] at h
  have z3 : Boxed W3 (w.heap.size + 1 + 1 + 1) 3 (.int .i64 bg) := by rw [hW3]; have h := Boxed.new (((w.alloc (.cells #[.int .i64 bc, .int .i64 bg, .int .i64 br] 23)).alloc (.cells #[.int .i64 e] 3)).alloc (.cells #[.bool false] 4)) 3 (.int .i64 bg); rwa [World.size_alloc, World.size_alloc, World.size_alloc] at h
  have bel : Below w.heap.size w W3 := by rw [hW3]; exact bt (bel2 w _ _) (bel2 _ _ _)
  have hsz : W3.heap.size = w.heap.size + 1 + 1 + 1 + 1 := by rw [hW3]; simp
  have HST := Lib.hid (pstr_any A T.length cap a f u sun W3)
  rw [hsz] at HST
  obtain ⟨ys, hys⟩ : ∃ ys, ys = allY T a f u sun := ⟨_, rfl⟩
  have HSQ := Lib.hid (fun (W : World) (Bf Bs Bu Bb Bc : Nat) (hW : Below W3.heap.size W3 W) (h1 : W3.heap.size ≤ Bf) (h2 : W3.heap.size ≤ Bs) (h3 : W3.heap.size ≤ Bu) (h4 : W3.heap.size ≤ Bb) (h5 : W3.heap.size ≤ Bc) zf zs zu zb zc =>
    str_seq 2 (by omega) Bf Bs Bu Bb Bc B A cap T a f u sun (fun b => b = w.heap.size + 1 + 1 ∨ b = w.heap.size + 1 + 1 + 1) W (by omega) hf hu hT (fun b hb => by have := hW.size; omega) (by have := hW.size; omega) (by omega) (by omega) (by omega) (by omega) (by omega) (fun b hb => by omega) zf zs zu zb zc (hR.below ((bel.mono hB).trans (hW.mono (by omega)))))
  have hseg := seg_all hO a f u sun
  rw [← hys] at HSQ hseg
  have HRE : Hid ((svF e bc ys bg).isSome = (sv T a e sun bc f bg (u - f).toNat).isSome) := Lib.hid (by
    have h := svF_sv T a e sun bc f bg he.1 hs.1 ys 0 bg (max f u) (by simpa using hseg) rfl ⟨hb.2.1, hb.2.2⟩
    rw [h, show (max f u - f).toNat = (u - f).toNat by omega])
  have HYB : Hid (∀ (k : Nat) (y : Int × Int), ys[k]? = some y → 0 < y.1 ∧ y.1 ≤ 1000001 ∧ 0 ≤ y.2 ∧ y.2 ≤ 2147483647) := Lib.hid (fun k y h => by
    obtain ⟨h1, h2, q, h3⟩ := seg_get hseg h
    have := gn_bd T a q hs
    exact ⟨h1, by omega, by rw [← h3]; exact this.1, by rw [← h3]; exact this.2⟩)
  have HGY := Lib.hid (fun k (hk : k < ys.length) => (⟨ys[k], List.getElem?_eq_getElem hk⟩ : ∃ y, ys[k]? = some y))
  have HSTP := Lib.hid (fun k (y : Int × Int) (c : Int) (h : ys[k]? = some y) hc => svF_step (e := e) (cap := bc) (c0 := bg) (c := c) h hc)
  have HNON := Lib.hid (fun k h => svF_none (e := e) (cap := bc) (ys := ys) (c := bg) (k := k) h)
  have HALL : Hid (ys.take ys.length = ys) := Lib.hid List.take_length
  have HW3 := Lib.hid hW3
  have HSZ := Lib.hid hsz
  have HZ := Lib.hid (And.intro z0 (And.intro z1 (And.intro z2 z3)))
  have HBEL := Lib.hid bel
  clear hW3 hsz z0 z1 z2 z3 bel hR hT hO hys hseg
  generalize (sv T a e sun bc f bg (u - f).toNat).isSome = res at *
  generalize hl : T.length = len at *
  have HL := Lib.hid hl
  clear hl
  refine (callsIn_wide (n := 3)).1 ?_
  refine callsIn_of_wp_marks Try.func29 rfl trivial ?_ rfl
  simp only [Try.ntmps29, List.size_toArray, List.length_cons, List.length_nil, Nat.reduceAdd, Nat.reduceSub, Array.replicate_succ, Array.replicate_zero, List.push_toArray, List.append_toArray, List.nil_append, List.cons_append]
  gi_wp2_with (refine ⟨trivial, ?_⟩; gi_at_call 42; rw [← HW3.out]; refine (callsIn_wide.2 HST.out).mono ?_; rintro e w5 ⟨rfl, ⟨t1, t2, t3, t4, t5⟩, hb5⟩; have HB5 : Hid (Below W3.heap.size W3 w5) := Lib.hid (hb5.mono (by have := HSZ.out; omega)); have HSS := Lib.hid (HSQ.out w5 _ _ _ _ _ HB5.out (by have := HSZ.out; omega) (by have := HSZ.out; omega) (by have := HSZ.out; omega) (by have := HSZ.out; omega) (by have := HSZ.out; omega) t3 t5 t4 t1 t2); clear t1 t2 t3 t4 t5 hb5)
  have hlt5 : w.heap.size + 1 + 1 + 1 + 1 ≤ w5.heap.size := by have := HB5.out.size; have := HSZ.out; omega
  have hbw5 : Below w.heap.size w w5 := HBEL.out.trans (HB5.out.mono (by have := HSZ.out; omega))
  have hz5 : w5.heap[w.heap.size]? = some (.cells #[.int .i64 bc, .int .i64 bg, .int .i64 br] 23 (0, 0)) ∧ Boxed w5 (w.heap.size + 1) 3 (.int .i64 e) ∧ Boxed w5 (w.heap.size + 1 + 1) 4 (.bool false) ∧ Boxed w5 (w.heap.size + 1 + 1 + 1) 3 (.int .i64 bg) := ⟨heap_keep HB5.out HZ.out.1, heap_keep HB5.out HZ.out.2.1, heap_keep HB5.out HZ.out.2.2.1, heap_keep HB5.out HZ.out.2.2.2⟩
  refine wpIn_rangeB rfl (by omega) (gf := 61) (lb := #[bp (w.heap.size + 1 + 1 + 1 + 1 + 1 + 1), bp (w.heap.size + 1 + 1 + 1 + 1 + 1 + 1 + 1 + 1), bp (w.heap.size + 1 + 1 + 1 + 1 + 1 + 1 + 1), bp (w.heap.size + 1 + 1 + 1 + 1), bp (w.heap.size + 1 + 1 + 1 + 1 + 1)]) rfl trivial (enters_of Try.func61 (by kernel_rfl) rfl) HSS.out (Below.refl _ _) (fun _ => rfl) (fun b hb => by omega)
    (fun k W => (W.heap[w.heap.size]? = some (.cells #[.int .i64 bc, .int .i64 bg, .int .i64 br] 23 (0, 0)) ∧ Boxed W (w.heap.size + 1) 3 (.int .i64 e) ∧ Boxed W (w.heap.size + 1 + 1) 4 (.bool false) ∧ ∃ c, Boxed W (w.heap.size + 1 + 1 + 1) 3 (.int .i64 c) ∧ svF e bc (ys.take k) bg = some c ∧ 0 ≤ c ∧ c ≤ bc) ∧ Below w.heap.size w W)
    (fun c W => c = .ret ∧ Boxed W (w.heap.size + 1 + 1) 4 (.bool false) ∧ res = false ∧ Below w.heap.size w W)
    (fun k A B ⟨⟨h0, h1, h2, c, h3, h5, h6⟩, h4⟩ hAB => ⟨⟨(hAB.block _ (by omega)).trans h0, (hAB.block _ (by omega)).trans h1, (hAB.block _ (by omega)).trans h2, c, (hAB.block _ (by omega)).trans h3, h5, h6⟩, h4.trans (hAB.mono (by omega))⟩)
    (fun c A B ⟨h0, h1, h2, h3⟩ hAB => ⟨h0, (hAB.block _ (by omega)).trans h1, h2, h3.trans (hAB.mono (by omega))⟩)
    ⟨⟨hz5.1, hz5.2.1, hz5.2.2.1, bg, hz5.2.2.2, rfl, hb.2⟩, hbw5⟩
    (fun k a' W => ∃ Bx, w5.heap.size ≤ Bx ∧ Sx W Bx (ys[k]?.getD (0, 0)) ∧ a' = { tmps := #[.agg #[.int .i64 bc, .int .i64 bg, .int .i64 br], .slice A len cap, .int .i64 a, .int .i64 f, .int .i64 u, .int .i64 e, .int .i64 sun, bp w.heap.size, undef, undef, undef, undef, bp (w.heap.size + 1), undef, bp (w.heap.size + 1 + 1), bp (w.heap.size + 1 + 1 + 1), bp Bx, undef, .pointer (some ⟨w.heap.size, 1, none⟩), .int .i64 bg, .slice A len cap, .int .i64 a, .int .i64 f, .int .i64 u, .int .i64 sun, .func (.func 61) #[] #[bp (w.heap.size + 1 + 1 + 1 + 1 + 1 + 1), bp (w.heap.size + 1 + 1 + 1 + 1 + 1 + 1 + 1 + 1), bp (w.heap.size + 1 + 1 + 1 + 1 + 1 + 1 + 1), bp (w.heap.size + 1 + 1 + 1 + 1), bp (w.heap.size + 1 + 1 + 1 + 1 + 1)], .agg #[.int .i64 (ys[k]?.getD (0, 0)).1, .int .i64 (ys[k]?.getD (0, 0)).2], undef, undef, undef, undef, undef, undef, undef, undef, undef, undef, undef, undef, undef, undef, undef, undef, undef, undef, undef, undef, undef, undef, undef, undef, undef, undef], defers := [] })
    (fun k a' _ X Y row hs hg hr => by obtain ⟨Bx, h1, h2, h3⟩ := hs; exact ⟨Bx, h1, Q.heap_own h2 rfl hg (fun r e => (hr r e).2), h3⟩)
    ?assign ?body ?done ?stop
  case assign =>
    rintro l k W K hk ⟨⟨h0, h1, h2, c, h3, h5, h6⟩, hB⟩ hge hK
    clear h0 h1 h2 h3 h5 h6 hz5 hbw5
    obtain ⟨y, hy⟩ := HGY.out k hk
    have hen : encS ys k = #[.agg #[.int .i64 y.1, .int .i64 y.2]] := by unfold encS; rw [hy]; rfl
    rw [hen]
    have HY := Lib.hid hy
    clear hy hen
    gi_wp2
    exact hK _ _ (bel1 W _) ⟨W.heap.size, hge, by rw [HY.out]; exact heap_top W _, by rw [HY.out]; rfl⟩
  case body =>
    rintro l k a' W hl hl2 hk ⟨⟨q0, q1, q2, c, q3, hsv, hc⟩, hB⟩ ⟨Bx, hBx, bX, rfl⟩
    obtain ⟨y, hy⟩ := HGY.out k hk
    rw [hy] at bX ⊢
    dsimp only [Option.getD_some] at bX ⊢
    have hyb := HYB.out k y hy
    have HSX := Lib.hid (HSTP.out k y c hy hsv)
    obtain ⟨yn, yg⟩ := y
    have n0 : W.cell? ⟨Bx, 0, none⟩ = some (.int .i64 yn) := by rw [cell_obj bX]; rfl
    have n1 : W.cell? ⟨Bx, 1, none⟩ = some (.int .i64 yg) := by rw [cell_obj bX]; rfl
    have b0 : W.cell? ⟨w.heap.size, 0, none⟩ = some (.int .i64 bc) := by rw [cell_obj q0]; rfl
    have d1 := q1.cell
    have d2 := q2.cell
    have d3 := q3.cell
    have f2 := q2.frozen
    have f3 := q3.frozen
    have QS := Lib.hid (And.intro q0 (And.intro q1 (And.intro q2 q3)))
    have QB := Lib.hid hB
    have hs1 := q1.lt
    have hs2 := q2.lt
    have hs3 := q3.lt
    dsimp only at hyb HSX
    have hmb := mul_bd (n := yn - 1) (d := yg - e) (c := 2147483647) (by omega) (by omega)
    obtain ⟨p, hp⟩ : ∃ p, p = (yn - 1) * (yg - e) := ⟨_, rfl⟩
    have hw1 : wrap64 ((yn - 1) * (yg - e)) = p := by rw [hp]; exact IntWalk.wrap64_in _ (by omega)
    rw [← hp] at hmb HSX
    have hP : -2147483647000000000 ≤ p ∧ p ≤ 2147483647000000000 := by omega
    have hm1 : -4294967296 ≤ min (c + yg) bc ∧ min (c + yg) bc ≤ 4294967296 := by omega
    obtain ⟨V, hV⟩ : ∃ V, V = W.setCell ⟨w.heap.size + 1 + 1 + 1, 0, none⟩ (.int .i64 (min (min (c + yg) bc - e + p) (bc - e))) := ⟨_, rfl⟩
    have HR : Hid (V.heap[w.heap.size]? = some (.cells #[.int .i64 bc, .int .i64 bg, .int .i64 br] 23 (0, 0)) ∧ Boxed V (w.heap.size + 1) 3 (.int .i64 e) ∧ Boxed V (w.heap.size + 1 + 1) 4 (.bool false) ∧ Boxed V (w.heap.size + 1 + 1 + 1) 3 (.int .i64 (min (min (c + yg) bc - e + p) (bc - e)))) := Lib.hid (by rw [hV]; exact ⟨hoth _ q0 (by omega), q1.other (by omega) _, q2.other (by omega) _, q3.set _⟩)
    have HRB : Hid (Below w.heap.size w V) := Lib.hid (by rw [hV]; exact hB.setCell (p := ⟨w.heap.size + 1 + 1 + 1, 0, none⟩) (by show w.heap.size ≤ w.heap.size + 1 + 1 + 1; omega) _)
    have HRK : Hid (Kb (fun b => b = w.heap.size + 1 + 1 ∨ b = w.heap.size + 1 + 1 + 1) W V) := Lib.hid (by rw [hV]; exact Kb.set _ (.inr rfl))
    clear q0 q1 q2 q3 hB bX hz5 hbw5 hy hmb hp
    have HCB : Hid (0 ≤ c ∧ c ≤ bc) := Lib.hid hc
    have HCP : Hid (∀ q, q = min (min (c + yg) bc - e + p) (bc - e) → q ≤ bc) := Lib.hid (fun q hq => by omega)
    gi_upto_region 6 with fail
    rw [← hV]
    clear hV n0 n1 b0 d1 d2 d3 f2 f3
    have d2 := HR.out.2.2.1.cell
    have d3 := HR.out.2.2.2.cell
    have f2 := HR.out.2.2.1.frozen
    generalize hq : min (min (c + yg) bc - e + p) (bc - e) = q at *
    have HQ := Lib.hid hq
    clear hq hw1
    by_cases hneg : q < 0
    · have HNO : Hid (res = false) := Lib.hid (by rw [← HRE.out, HNON.out (k + 1) (by rw [HSX.out, if_pos hneg])]; rfl)
      gi_wp2
      exact ⟨HRK.out.trans (Kb.set _ (.inl rfl)), rfl, HR.out.2.2.1.set _, HNO.out, HRB.out.setCell (p := ⟨w.heap.size + 1 + 1, 0, none⟩) (by show w.heap.size ≤ w.heap.size + 1 + 1; omega) _⟩
    · have HYE : Hid (svF e bc (ys.take (k + 1)) bg = some q) := Lib.hid (by rw [HSX.out, if_neg hneg])
      have HQN := Lib.hid hneg
      gi_wp2
      exact ⟨HRK.out, ⟨HR.out.1, HR.out.2.1, HR.out.2.2.1, q, HR.out.2.2.2, HYE.out, by have := HQN.out; omega, HCP.out q rfl⟩, HRB.out⟩
  case done =>
    rintro D W hD ⟨⟨q0, q1, q2, c, q3, hsv, hc⟩, hB⟩ hK
    rw [HALL.out] at hsv
    have HT : Hid (res = true) := Lib.hid (by rw [← HRE.out, hsv]; rfl)
    have d2 := q2.cell
    have f2 := q2.frozen
    have Q2 := Lib.hid q2
    have QB := Lib.hid hB
    clear hz5 hbw5 q0 q1 q3 hsv q2 hB
    gi_wp2
    obtain ⟨V, hV⟩ : ∃ V, V = W.setCell ⟨w.heap.size + 1 + 1, 0, none⟩ (.bool true) := ⟨_, rfl⟩
    rw [← hV]
    have r2 : Boxed V (w.heap.size + 1 + 1) 4 (.bool true) := by rw [hV]; exact Q2.out.set _
    have rB : Below w.heap.size w V := by rw [hV]; exact QB.out.setCell (p := ⟨w.heap.size + 1 + 1, 0, none⟩) (by show w.heap.size ≤ w.heap.size + 1 + 1; omega) _
    have hK2 : V.heap[D]? = some (.deferred (some [])) := by rw [hV]; exact hoth _ hK (by omega)
    refine ⟨by simp, .inl ⟨_, _, rfl, run_takeDeferred hK2, ?_⟩⟩
    have e0 : (V.putObj D (.deferred none)).cell? ⟨w.heap.size + 1 + 1, 0, none⟩ = some (.bool true) := Boxed.cell (t := 4) ((World.putObj_heap_other (by omega)).trans r2)
    have rb := rB.trans (belowK_b (w := w) (Nat.le_refl _) V D _ (.deferred none) (by omega) hK2 rfl rfl)
    generalize V.putObj D (.deferred none) = V2 at e0 rb ⊢
    exact ⟨.bool true, by simp [results, Try.results29, go_sem, e0], by rw [HT.out], rb⟩
  case stop =>
    rintro D c W hD ⟨rfl, q2, hr, hB⟩ hK
    clear hz5 hbw5
    gi_wp2
    refine ⟨by simp, .inl ⟨_, _, rfl, run_takeDeferred hK, ?_⟩⟩
    have e0 : (W.putObj D (.deferred none)).cell? ⟨w.heap.size + 1 + 1, 0, none⟩ = some (.bool false) := Boxed.cell (t := 4) ((World.putObj_heap_other (by omega)).trans q2)
    have rb := hB.trans (belowK_b (w := w) (Nat.le_refl _) W D _ (.deferred none) (by omega) hK rfl rfl)
    generalize W.putObj D (.deferred none) = V2 at e0 rb ⊢
    exact ⟨.bool false, by simp [results, Try.results29, go_sem, e0], by rw [hr], rb⟩
end Pw
end Go.Proofs.Ytobbnbelacncjaa
