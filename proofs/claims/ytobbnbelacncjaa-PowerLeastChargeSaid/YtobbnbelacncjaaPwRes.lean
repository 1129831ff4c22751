/-
  The landed stretches as a sequence; the landed Reserve.
-/
import Derived.Test.YtobbnbelacncjaaPwSt2
import Derived.Test.YtobbnbelacncjaaPwPg
namespace Go.Proofs.Ytobbnbelacncjaa
open Go.RowKit Go.Shelf
attribute [local go_sem] Oper.semAt_some
namespace Pw
open H
set_option linter.unusedVariables false
set_option linter.unusedSimpArgs false
set_option maxRecDepth 100000
theorem str_seq (n : Nat) (hn : 2 ≤ n) (Bf Bs Bu Bb Bc len0 : Nat) (A : Option Addr) (cap : Nat) (T : List Q.Wn) (a f u sun : Int) (E : Nat → Prop) (w : World)
    (hlen : T.length ≤ 140737488351232) (hf : 0 ≤ f ∧ f ≤ 1000001) (hu : 0 ≤ u ∧ u ≤ 1000001) (hT : ∀ x ∈ T, Q.Tok x) (hE : ∀ b, E b → b < w.heap.size) (hl0 : len0 ≤ w.heap.size)
    (eBf : ¬ E Bf) (eBs : ¬ E Bs) (eBu : ¬ E Bu) (eBb : ¬ E Bb) (eBc : ¬ E Bc) (eT : ∀ b, b < len0 → ¬ E b)
    (zf : w.cell? ⟨Bf, 0, none⟩ = some (.int .i64 f)) (zs : w.cell? ⟨Bs, 0, none⟩ = some (.int .i64 sun)) (zu : w.cell? ⟨Bu, 0, none⟩ = some (.int .i64 u)) (zb : w.cell? ⟨Bb, 0, none⟩ = some (.slice A T.length cap)) (zc : w.cell? ⟨Bc, 0, none⟩ = some (.int .i64 a))
    (hR : Q.RdsWn w len0 A T) :
    SeqB Fence.wide n Try.prog 61 #[bp Bf, bp Bs, bp Bu, bp Bb, bp Bc] (encS (allY T a f u sun)) (allY T a f u sun).length E w := by
  intro l J X W hW hl1 hl2 hJ hY h0
  have hs := hW.size
  have lf := World.block_lt_of_cell? _ _ zf
  have ls := World.block_lt_of_cell? _ _ zs
  have lu := World.block_lt_of_cell? _ _ zu
  have lb := World.block_lt_of_cell? _ _ zb
  have lc := World.block_lt_of_cell? _ _ zc
  dsimp only at lf ls lu lb lc
  exact str1_in n hn l Bf Bs Bu Bb Bc len0 A cap T a f u sun J X E W hlen hf hu hT hJ hY (fun b hb => by have := hE b hb; omega) hl2 (by omega) (by omega) (by omega) (by omega) (by omega) (by omega) eBf eBs eBu eBb eBc eT
    (below_cell hW zf) (below_cell hW zs) (below_cell hW zu) (below_cell hW zb) (below_cell hW zc) (hR.below (hW.mono hl0)) h0
set_option maxHeartbeats 2000000 in
theorem pstr_any (A : Option Addr) (len cap : Nat) (a f u sun : Int) (w : World) :
    Calls Try.prog 42 #[.slice A len cap, .int .i64 a, .int .i64 f, .int .i64 u, .int .i64 sun] w fun e w' =>
      e = .returned (.func (.func 61) #[] #[bp (w.heap.size + 1 + 1), bp (w.heap.size + 1 + 1 + 1 + 1), bp (w.heap.size + 1 + 1 + 1), bp w.heap.size, bp (w.heap.size + 1)]) ∧
      (w'.cell? ⟨w.heap.size, 0, none⟩ = some (.slice A len cap) ∧ w'.cell? ⟨w.heap.size + 1, 0, none⟩ = some (.int .i64 a) ∧ w'.cell? ⟨w.heap.size + 1 + 1, 0, none⟩ = some (.int .i64 f) ∧ w'.cell? ⟨w.heap.size + 1 + 1 + 1, 0, none⟩ = some (.int .i64 u) ∧ w'.cell? ⟨w.heap.size + 1 + 1 + 1 + 1, 0, none⟩ = some (.int .i64 sun)) ∧ Below w.heap.size w w' := by
  go_enter Try.func42, Try.ntmps42
  go_wp2_with fail
  go_ret
  refine ⟨rfl, ⟨?_, ?_, ?_, ?_, ?_⟩, bt (bt (bel2 w _ _) (bel2 _ _ _)) (bel1 _ _)⟩
  · exact cell_under _ (cell_under _ (cell_under _ (cell_under _ (cell_top _ _ _ _))))
  · exact cell_under _ (cell_under _ (cell_under _ (cell_new2 _ _ _ _ _)))
  · exact cell_under _ (cell_under _ (cell_new3 _ _ _ _ _ _))
  · refine cell_under _ ?_
    have h := cell_new3 (w.alloc (.cells #[.slice A len cap] 45)) (.cells #[.int .i64 a] 3) (.cells #[.int .i64 f] 3) #[.int .i64 u] 3 0
    rwa [World.size_alloc] at h
  · have h := cell_new3 ((w.alloc (.cells #[.slice A len cap] 45)).alloc (.cells #[.int .i64 a] 3)) (.cells #[.int .i64 f] 3) (.cells #[.int .i64 u] 3) #[.int .i64 sun] 3 0
    rwa [World.size_alloc, World.size_alloc] at h
/-- Deficit and need over stretches. -/
def dN (e : Int) : List (Int × Int) → Int × Int → Int × Int
  | [], s => s
  | y :: ys, s => dN e ys (s.1 + y.1 * (e - y.2), max s.2 (s.1 + y.1 * (e - y.2)))
theorem dN_rsv (e : Int) : ∀ (ys : List (Int × Int)) (s : Int × Int), (dN e ys s).2 = rsv e ys s.1 s.2
  | [], s => rfl
  | y :: ys, s => dN_rsv e ys _
theorem dN_snoc (e : Int) (y : Int × Int) : ∀ (l : List (Int × Int)) (s : Int × Int), dN e (l ++ [y]) s = ((dN e l s).1 + y.1 * (e - y.2), max (dN e l s).2 ((dN e l s).1 + y.1 * (e - y.2)))
  | [], s => rfl
  | x :: l, s => dN_snoc e y l _
theorem dN_step {e : Int} {ys : List (Int × Int)} {s : Int × Int} {y : Int × Int} {k : Nat} (h : ys[k]? = some y) : dN e (ys.take (k + 1)) s = ((dN e (ys.take k) s).1 + y.1 * (e - y.2), max (dN e (ys.take k) s).2 ((dN e (ys.take k) s).1 + y.1 * (e - y.2))) := by
  rw [List.take_add_one, h]; exact dN_snoc e y _ _
theorem seg_get {G : Int → Int} {y : Int × Int} : ∀ {l : List (Int × Int)} {t t' : Int} {k : Nat}, SegE G t t' l → l[k]? = some y → 0 < y.1 ∧ y.1 ≤ t' - t ∧ ∃ q, G q = y.2
  | x :: l, t, t', 0, ⟨h1, h2, h3⟩, hy => by
    obtain rfl := Option.some.inj hy
    exact ⟨h1, by have := SegE.le h3; omega, t, h2 t (Int.le_refl _) (by omega)⟩
  | x :: l, t, t', k + 1, ⟨h1, h2, h3⟩, hy => by
    obtain ⟨a, b, c⟩ := seg_get (k := k) h3 hy
    exact ⟨a, by omega, c⟩
theorem mul_bd {n d c : Int} (hn : 0 ≤ n) (hd : -c ≤ d ∧ d ≤ c) : -(c * n) ≤ n * d ∧ n * d ≤ c * n := by
  have h1 := Int.mul_le_mul_of_nonneg_left hd.1 hn
  have h2 := Int.mul_le_mul_of_nonneg_left hd.2 hn
  rw [Int.mul_neg, Int.mul_comm n c] at h1
  rw [Int.mul_comm n c] at h2
  exact ⟨h1, h2⟩
theorem dN_bd {G : Int → Int} {e f : Int} (hG : ∀ q, 0 ≤ G q ∧ G q ≤ 2147483647) (he : 0 ≤ e ∧ e ≤ 2147483647) : ∀ {l : List (Int × Int)} {t t' : Int} {s : Int × Int} (k : Nat), SegE G t t' l → f ≤ t → -(2147483647 * (t - f)) ≤ s.1 ∧ s.1 ≤ 2147483647 * (t - f) → 0 ≤ s.2 ∧ s.2 ≤ 2147483647 * (t - f) →
    (-(2147483647 * (t' - f)) ≤ (dN e (l.take k) s).1 ∧ (dN e (l.take k) s).1 ≤ 2147483647 * (t' - f)) ∧ (0 ≤ (dN e (l.take k) s).2 ∧ (dN e (l.take k) s).2 ≤ 2147483647 * (t' - f))
  | l, t, t', s, 0, h, hf, h1, h2 => by
    have := SegE.le h
    rw [List.take_zero]
    show (_ ≤ s.1 ∧ s.1 ≤ _) ∧ (0 ≤ s.2 ∧ s.2 ≤ _)
    omega
  | [], t, t', s, k + 1, h, hf, h1, h2 => by
    have := SegE.le h
    show (_ ≤ s.1 ∧ s.1 ≤ _) ∧ (0 ≤ s.2 ∧ s.2 ≤ _)
    omega
  | y :: l, t, t', s, k + 1, ⟨g1, g2, g3⟩, hf, h1, h2 => by
    have hy := g2 t (Int.le_refl _) (by omega)
    have hg := hG t
    rw [hy] at hg
    have hm := mul_bd (n := y.1) (d := e - y.2) (c := 2147483647) (by omega) (by omega)
    rw [List.take_succ_cons]
    show (_ ≤ (dN e (l.take k) _).1 ∧ _) ∧ _
    refine dN_bd hG he k g3 (by omega) ?_ ?_
    · dsimp only
      omega
    · dsimp only
      omega
/-- The box of a stretch. -/
def Sx (W : World) (b : Nat) (y : Int × Int) : Prop := W.heap[b]? = some (.cells #[.int .i64 y.1, .int .i64 y.2] 82 (0, 0))
set_option maxHeartbeats 4000000 in
theorem preserve_any (T : List Q.Wn) (A : Option Addr) (cap B : Nat) (a f e sun : Int) (w : World) (hB : B ≤ w.heap.size) (hlen : T.length ≤ 1000) (hf : 0 ≤ f ∧ f ≤ 1000001) (he : 0 ≤ e ∧ e ≤ 2147483647) (hs : 0 ≤ sun ∧ sun ≤ 2147483647) (hT : ∀ x ∈ T, Q.Tok x) (hO : SrtF T) (hR : Q.RdsWn w B A T) :
    Calls Try.prog 24 #[.slice A T.length cap, .int .i64 a, .int .i64 f, .int .i64 e, .int .i64 sun] w fun o w' => o = .returned (.int .i64 (need T a e sun f)) ∧ Below w.heap.size w w' := by
  obtain ⟨W3, hW3⟩ : ∃ W3, W3 = ((w.alloc (.cells #[.int .i64 e] 3)).alloc (.cells #[.int .i64 0] 3)).alloc (.cells #[.int .i64 0] 3) := ⟨_, rfl⟩
  have z1 : Boxed W3 w.heap.size 3 (.int .i64 e) := by rw [hW3]; exact ((Boxed.new w _ _).alloc _).alloc _
  have z2 : Boxed W3 (w.heap.size + 1) 3 (.int .i64 0) := by rw [hW3]; have h := (Boxed.new (w.alloc (.cells #[.int .i64 e] 3)) 3 (.int .i64 0)).alloc (.cells #[.int .i64 0] 3); rwa [World.size_alloc] at h
  have z3 : Boxed W3 (w.heap.size + 1 + 1) 3 (.int .i64 0) := by rw [hW3]; have h := Boxed.new ((w.alloc (.cells #[.int .i64 e] 3)).alloc (.cells #[.int .i64 0] 3)) 3 (.int .i64 0); rwa [World.size_alloc, World.size_alloc] at h
  have bel : Below w.heap.size w W3 := by rw [hW3]; exact bt (bel2 w _ _) (bel1 _ _)
  have hsz : W3.heap.size = w.heap.size + 1 + 1 + 1 := by rw [hW3]; simp
  obtain ⟨u, hu⟩ : ∃ u, u = endT T 0 := ⟨_, rfl⟩
  have hub : 0 ≤ u ∧ u ≤ 1000000 := by rw [hu]; exact endT_bd (fun x hx => (hT x hx).un.2) (by omega)
  have HEN := Lib.hid (pend_any T A cap B W3 (by omega) (by omega) (hR.below (bel.mono hB)))
  rw [← hu] at HEN
  have HST := Lib.hid (fun W => pstr_any A T.length cap a f u sun W)
  obtain ⟨ys, hys⟩ : ∃ ys, ys = allY T a f u sun := ⟨_, rfl⟩
  have HSQ := Lib.hid (fun (W : World) (Bf Bs Bu Bb Bc : Nat) (hW : Below W3.heap.size W3 W) (h1 : W3.heap.size ≤ Bf) (h2 : W3.heap.size ≤ Bs) (h3 : W3.heap.size ≤ Bu) (h4 : W3.heap.size ≤ Bb) (h5 : W3.heap.size ≤ Bc) zf zs zu zb zc =>
    str_seq 2 (by omega) Bf Bs Bu Bb Bc B A cap T a f u sun (fun b => b = w.heap.size + 1 ∨ b = w.heap.size + 1 + 1) W (by omega) hf (by omega) hT (fun b hb => by have := hW.size; omega) (by have := hW.size; omega) (by omega) (by omega) (by omega) (by omega) (by omega) (fun b hb => by omega) zf zs zu zb zc (hR.below ((bel.mono hB).trans (hW.mono (by omega)))))
  have hseg := seg_all hO a f u sun
  rw [← hys] at HSQ hseg
  have HRE : Hid ((dN e ys (0, 0)).2 = need T a e sun f) := Lib.hid (by rw [dN_rsv, rsv_need T a e sun ys f 0 0 (by rw [← hu]; exact hseg) (Int.le_refl _)]; have := need_nn T a e sun f; omega)
  have HBD : Hid (∀ k, (-(2147483647 * (max f u - f)) ≤ (dN e (ys.take k) (0, 0)).1 ∧ (dN e (ys.take k) (0, 0)).1 ≤ 2147483647 * (max f u - f)) ∧ (0 ≤ (dN e (ys.take k) (0, 0)).2 ∧ (dN e (ys.take k) (0, 0)).2 ≤ 2147483647 * (max f u - f))) := Lib.hid (fun k => dN_bd (fun q => gn_bd T a q hs) he k hseg (Int.le_refl _) (by simp) (by simp))
  have HYB : Hid (∀ (k : Nat) (y : Int × Int), ys[k]? = some y → 0 < y.1 ∧ y.1 ≤ 1000001 ∧ 0 ≤ y.2 ∧ y.2 ≤ 2147483647) := Lib.hid (fun k y h => by
    obtain ⟨h1, h2, q, h3⟩ := seg_get hseg h
    have := gn_bd T a q hs
    exact ⟨h1, by omega, by rw [← h3]; exact this.1, by rw [← h3]; exact this.2⟩)
  have HGY := Lib.hid (fun k (hk : k < ys.length) => (⟨ys[k], List.getElem?_eq_getElem hk⟩ : ∃ y, ys[k]? = some y))
  have HSTP := Lib.hid (fun k y (h : ys[k]? = some y) => dN_step (e := e) (s := (0, 0)) h)
  have HALL : Hid (ys.take ys.length = ys) := Lib.hid List.take_length
  have HW3 := Lib.hid hW3
  have HSZ := Lib.hid hsz
  have HZ := Lib.hid (And.intro z1 (And.intro z2 z3))
  have HBEL := Lib.hid bel
  clear hW3 hsz z1 z2 z3 bel hR hT hO hys hseg hu
  generalize need T a e sun f = res at *
  generalize hl : T.length = len at *
  have HL := Lib.hid hl
  clear hl
  refine (callsIn_wide (n := 3)).1 ?_
  refine callsIn_of_wp_marks Try.func24 rfl trivial ?_ rfl
  simp only [Try.ntmps24, List.size_toArray, List.length_cons, List.length_nil, Nat.reduceAdd, Nat.reduceSub, Array.replicate_succ, Array.replicate_zero, List.push_toArray, List.append_toArray, List.nil_append, List.cons_append]
  gi_wp2_with (first
    | (refine ⟨trivial, ?_⟩; gi_at_call 43; rw [← HW3.out]; refine (callsIn_wide.2 HEN.out).mono ?_; rintro e w4 ⟨rfl, hb4⟩; have HB4 := Lib.hid hb4; clear hb4)
    | (refine ⟨trivial, ?_⟩; gi_at_call 42; refine (callsIn_wide.2 (HST.out _)).mono ?_; rintro e w5 ⟨rfl, ⟨t1, t2, t3, t4, t5⟩, hb5⟩; have HB5 := Lib.hid (bt HB4.out hb5); have HS4 := Lib.hid HB4.out.size; have HSS := Lib.hid (HSQ.out w5 _ _ _ _ _ HB5.out (by have := HB4.out.size; omega) (by have := HB4.out.size; omega) (by have := HB4.out.size; omega) (by have := HB4.out.size; omega) (by have := HB4.out.size; omega) t3 t5 t4 t1 t2); clear t1 t2 t3 t4 t5 hb5))
  have hlt5 : w.heap.size + 1 + 1 + 1 ≤ w5.heap.size := by have := HB5.out.size; have := HSZ.out; omega
  have hbw5 : Below w.heap.size w w5 := HBEL.out.trans (HB5.out.mono (by have := HSZ.out; omega))
  have hz5 : Boxed w5 w.heap.size 3 (.int .i64 e) ∧ Boxed w5 (w.heap.size + 1) 3 (.int .i64 0) ∧ Boxed w5 (w.heap.size + 1 + 1) 3 (.int .i64 0) := ⟨heap_keep HB5.out HZ.out.1, heap_keep HB5.out HZ.out.2.1, heap_keep HB5.out HZ.out.2.2⟩
  have HLT5 := Lib.hid hlt5
  have HBW5 := Lib.hid hbw5
  refine wpIn_rangeB rfl (by omega) (gf := 61) (lb := #[bp (w4.heap.size + 1 + 1), bp (w4.heap.size + 1 + 1 + 1 + 1), bp (w4.heap.size + 1 + 1 + 1), bp w4.heap.size, bp (w4.heap.size + 1)]) rfl trivial (enters_of Try.func61 (by kernel_rfl) rfl) HSS.out (Below.refl _ _) (fun _ => rfl) (fun b hb => by omega)
    (fun k W => (Boxed W w.heap.size 3 (.int .i64 e) ∧ Boxed W (w.heap.size + 1) 3 (.int .i64 (dN e (ys.take k) (0, 0)).1) ∧ Boxed W (w.heap.size + 1 + 1) 3 (.int .i64 (dN e (ys.take k) (0, 0)).2)) ∧ Below w.heap.size w W)
    (fun _ _ => False)
    (fun k A B ⟨⟨h1, h2, h3⟩, h4⟩ hAB => ⟨⟨(hAB.block _ (by omega)).trans h1, (hAB.block _ (by omega)).trans h2, (hAB.block _ (by omega)).trans h3⟩, h4.trans (hAB.mono (by omega))⟩)
    (fun _ _ _ h _ => h)
    ⟨hz5, hbw5⟩
    (fun k a' W => ∃ Bx, w5.heap.size ≤ Bx ∧ Sx W Bx (ys[k]?.getD (0, 0)) ∧ a' = { tmps := #[.slice A len cap, .int .i64 a, .int .i64 f, .int .i64 e, .int .i64 sun, undef, undef, undef, bp w.heap.size, undef, .int .i64 0, bp (w.heap.size + 1), bp (w.heap.size + 1 + 1), bp Bx, .slice A len cap, .int .i64 a, .int .i64 f, .slice A len cap, .int .i64 u, .int .i64 sun, .func (.func 61) #[] #[bp (w4.heap.size + 1 + 1), bp (w4.heap.size + 1 + 1 + 1 + 1), bp (w4.heap.size + 1 + 1 + 1), bp w4.heap.size, bp (w4.heap.size + 1)], .agg #[.int .i64 (ys[k]?.getD (0, 0)).1, .int .i64 (ys[k]?.getD (0, 0)).2], undef, undef, undef, undef, undef, undef, undef, undef, undef, undef, undef, undef, undef], defers := [] })
    (fun k a' _ X Y row hs hg hr => by obtain ⟨Bx, h1, h2, h3⟩ := hs; exact ⟨Bx, h1, Q.heap_own h2 rfl hg (fun r e => (hr r e).2), h3⟩)
    ?assign ?body ?done ?stop
  case assign =>
    rintro l k W K hk ⟨⟨h1, h2, h3⟩, hB⟩ hge hK
    clear h1 h2 h3 hz5 hbw5
    obtain ⟨y, hy⟩ := HGY.out k hk
    have hen : encS ys k = #[.agg #[.int .i64 y.1, .int .i64 y.2]] := by unfold encS; rw [hy]; rfl
    rw [hen]
    have HY := Lib.hid hy
    clear hy hen
    gi_wp2
    exact hK _ _ (bel1 W _) ⟨W.heap.size, hge, by rw [HY.out]; exact heap_top W _, by rw [HY.out]; rfl⟩
  case body =>
    rintro l k a' W hl hl2 hk ⟨⟨q1, q2, q3⟩, hB⟩ ⟨Bx, hBx, bX, rfl⟩
    obtain ⟨y, hy⟩ := HGY.out k hk
    rw [hy] at bX ⊢
    dsimp only [Option.getD_some] at bX ⊢
    have hyb := HYB.out k y hy
    have hbd := HBD.out k
    have HSX := Lib.hid (HSTP.out k y hy)
    have HBDn := Lib.hid (HBD.out (k + 1))
    obtain ⟨yn, yg⟩ := y
    have n0 : W.cell? ⟨Bx, 0, none⟩ = some (.int .i64 yn) := by rw [cell_obj bX]; rfl
    have n1 : W.cell? ⟨Bx, 1, none⟩ = some (.int .i64 yg) := by rw [cell_obj bX]; rfl
    have d1 := q1.cell
    have d2 := q2.cell
    have d3 := q3.cell
    have f2 := q2.frozen
    have f3 := q3.frozen
    have QS := Lib.hid (And.intro q1 (And.intro q2 q3))
    have QB := Lib.hid hB
    have hs1 := q1.lt
    have hs2 := q2.lt
    have hs3 := q3.lt
    dsimp only at hyb HSX
    have hmb := mul_bd (n := yn) (d := e - yg) (c := 2147483647) (by omega) (by omega)
    obtain ⟨p, hp⟩ : ∃ p, p = yn * (e - yg) := ⟨_, rfl⟩
    have hw1 : wrap64 (yn * (e - yg)) = p := by rw [hp]; exact IntWalk.wrap64_in _ (by omega)
    rw [← hp] at hmb HSX
    clear q1 q2 q3 hB bX hz5 hbw5 hy
    generalize (dN e (ys.take k) (0, 0)).1 = D at *
    generalize (dN e (ys.take k) (0, 0)).2 = N at *
    have hD : -2147483647000000000 ≤ D ∧ D ≤ 2147483647000000000 := by omega
    have hN : 0 ≤ N ∧ N ≤ 2147483647000000000 := by omega
    have hP : -2147483647000000000 ≤ p ∧ p ≤ 2147483647000000000 := by omega
    clear hbd hmb hp
    gi_wp2
    obtain ⟨q1, q2, q3⟩ := QS.out
    obtain ⟨V, hV⟩ : ∃ V, V = W.setCell ⟨w.heap.size + 1, 0, none⟩ (.int .i64 (D + p)) := ⟨_, rfl⟩
    rw [← hV]
    have r1 : Boxed V w.heap.size 3 (.int .i64 e) := by rw [hV]; exact q1.other (by omega) _
    have r2 : Boxed V (w.heap.size + 1) 3 (.int .i64 (D + p)) := by rw [hV]; exact q2.set _
    have r3 : Boxed V (w.heap.size + 1 + 1) 3 (.int .i64 N) := by rw [hV]; exact q3.other (by omega) _
    have rB : Below w.heap.size w V := by rw [hV]; exact QB.out.setCell (p := ⟨w.heap.size + 1, 0, none⟩) (by show w.heap.size ≤ w.heap.size + 1; omega) _
    refine ⟨(by rw [hV]; exact Kb.set _ (.inl rfl) : Kb _ W V).trans (Kb.set _ (.inr rfl)), ⟨r1.other (by omega) _, ?_, ?_⟩, rB.setCell (p := ⟨w.heap.size + 1 + 1, 0, none⟩) (by show w.heap.size ≤ w.heap.size + 1 + 1; omega) _⟩
    · rw [HSX.out]
      exact r2.other (by omega) _
    · rw [HSX.out]
      exact r3.set _
  case done =>
    rintro D W hD ⟨⟨q1, q2, q3⟩, hB⟩ hK
    rw [HALL.out, HRE.out] at q3
    have d3 := q3.cell
    clear hz5 hbw5
    gi_wp2
    refine ⟨by simp, .inl ⟨_, _, rfl, run_takeDeferred hK, ?_⟩⟩
    exact ⟨_, results_tmp rfl _ _ _, rfl, hB.trans (belowK_b (w := w) (Nat.le_refl _) W D _ _ (by omega) hK rfl rfl)⟩
  case stop =>
    rintro D c W hD h _
    exact h.elim
end Pw
end Go.Proofs.Ytobbnbelacncjaa
