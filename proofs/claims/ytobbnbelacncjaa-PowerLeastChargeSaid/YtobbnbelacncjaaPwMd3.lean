/-
  Merged by merge.py: PwCas PwMd2.
-/
import Derived.Test.YtobbnbelacncjaaPwBat
import Derived.Test.YtobbnbelacncjaaPwTab9
import Derived.Test.YtobbnbelacncjaaPwR3
import Derived.Test.YtobbnbelacncjaaPwMth
import Derived.Deep.DeepCutAuto
import Derived.Deep.RegionHeld3
import Derived.Deep.LoopGhost
import Derived.Deep.QuietTactic
namespace Go.Proofs.Ytobbnbelacncjaa
open Go.ChangeShapes Go.WideShapes Go.ChangeAt Go.RowKit
namespace Pw
open H
set_option linter.unusedVariables false
set_option maxRecDepth 100000
theorem cellsCa : Try.prog.cellsOf 50 = 9 := by kernel_rfl
theorem cellsU8 : Try.prog.cellsOf 5 = 1 := by kernel_rfl
theorem cellsU16 : Try.prog.cellsOf 38 = 1 := by kernel_rfl
theorem cellsU16s : Try.prog.cellsOf 44 = 1 := by kernel_rfl
abbrev caV (x : Bt) (A : Option Addr) (n c : Nat) (cr fr un es su : Int) : Value := .agg #[.int .i64 x.cap, .int .i64 x.chg, .int .i64 x.res, .slice A n c, .int .u8 cr, .int .u16 fr, .int .u16 un, .int .u16 es, .int .u16 su]
theorem three_Bt {HH : Type} {enc : TypeId × Value → HH} {W : World} {m : Nat} {c0 c1 c2 : Value} {y : DataW HH × List MemPlace} (hf : DataW.trod enc Try.prog W 0 (fun _ => true) true m 23 [c0, c1, c2] = some y) :
    ∃ x : Bt, c0 = .int .i64 x.cap ∧ c1 = .int .i64 x.chg ∧ c2 = .int .i64 x.res ∧ x.Ok := by
  obtain ⟨d, p⟩ := y
  obtain ⟨xs, m2, _, _, _, hlen, hff⟩ := DataW.trod_struct Try.underlying23 hf
  have hx : xs.length = 3 := hlen
  have one : ∀ (i : Nat) (c : Value) (f : Field), DataW.trod enc Try.prog W 0 (fun _ => true) true m2 f.type (([c0, c1, c2].drop f.offset).take (Try.prog.cellsOf f.type)) = xs[i]? → f.type = 3 → ([c0, c1, c2].drop f.offset).take 1 = [c] → i < 3 → ∃ a : Int, c = .int .i64 a ∧ I64 a := by
    intro i c f h ht hc hi
    rw [ht, cellsI1, hc, List.getElem?_eq_getElem (by omega)] at h
    obtain ⟨a, e, _, wf⟩ := DataW.trod_int Try.underlying3 h
    injection e with e
    exact ⟨a, e, i64_range wf⟩
  obtain ⟨a0, rfl, w0⟩ := one 0 c0 _ (hff 0 _ rfl) rfl rfl (by omega)
  obtain ⟨a1, rfl, w1⟩ := one 1 c1 _ (hff 1 _ rfl) rfl rfl (by omega)
  obtain ⟨a2, rfl, w2⟩ := one 2 c2 _ (hff 2 _ rfl) rfl rfl (by omega)
  exact ⟨⟨a0, a1, a2⟩, rfl, rfl, rfl, w0, w1, w2⟩
theorem open_Ca {HH : Type} {enc : TypeId × Value → HH} {W : World} {r : Reach} {b0 : Nat} {v : Value} {d : DataW HH} {p : List MemPlace} (hv : Value.okWide Try.prog W r b0 50 v) (h : DataW.Trod enc Try.prog W 0 (fun _ => true) true 50 v d p) :
    ∃ (x : Bt) (A : Option Addr) (n c : Nat) (z : List Int) (cr fr un es su : Int), v = caV x A n c cr fr un es su ∧ x.Ok ∧ z.length = n ∧ (n ≤ c ∧ c ≤ maxLen) ∧ RdI W W.heap.size .u16 A z ∧ (∀ n ∈ z, (Lit.int .u16 n).wf = true) ∧ (0 ≤ cr ∧ cr < 256) ∧ (0 ≤ fr ∧ fr < 65536) ∧ (0 ≤ un ∧ un < 65536) ∧ (0 ≤ es ∧ es < 65536) ∧ (0 ≤ su ∧ su < 65536) := by
  obtain ⟨cs, rfl, hsz⟩ := okWide_struct Try.underlying50 hv
  obtain ⟨fuel, hf⟩ := h
  obtain ⟨l⟩ := cs
  have hl : l.length = 9 := by rw [cellsCa] at hsz; simpa using hsz
  have hf' : DataW.trod enc Try.prog W 0 (fun _ => true) true fuel 50 l = some (d, p) := by simpa [Value.cells] using hf
  obtain ⟨xs, m, _, _, _, hlen, hff⟩ := DataW.trod_struct Try.underlying50 hf'
  match l, hl with
  | [c0, c1, c2, c3, c4, c5, c6, c7, c8], _ =>
    have hx : xs.length = 7 := hlen
    have u16 : ∀ (i : Nat) (c : Value) (f : Field), DataW.trod enc Try.prog W 0 (fun _ => true) true m f.type (([c0, c1, c2, c3, c4, c5, c6, c7, c8].drop f.offset).take (Try.prog.cellsOf f.type)) = xs[i]? → f.type = 38 → ([c0, c1, c2, c3, c4, c5, c6, c7, c8].drop f.offset).take 1 = [c] → i < 7 → ∃ a : Int, c = .int .u16 a ∧ (0 ≤ a ∧ a < 65536) := by
      intro i c f h ht hc hi
      rw [ht, cellsU16, hc, List.getElem?_eq_getElem (by omega)] at h
      obtain ⟨a, e, _, wf⟩ := DataW.trod_int Try.underlying38 h
      injection e with e
      exact ⟨a, e, u16_bd wf⟩
    have u8 : ∀ (i : Nat) (c : Value) (f : Field), DataW.trod enc Try.prog W 0 (fun _ => true) true m f.type (([c0, c1, c2, c3, c4, c5, c6, c7, c8].drop f.offset).take (Try.prog.cellsOf f.type)) = xs[i]? → f.type = 5 → ([c0, c1, c2, c3, c4, c5, c6, c7, c8].drop f.offset).take 1 = [c] → i < 7 → ∃ a : Int, c = .int .u8 a ∧ (0 ≤ a ∧ a < 256) := by
      intro i c f h ht hc hi
      rw [ht, cellsU8, hc, List.getElem?_eq_getElem (by omega)] at h
      obtain ⟨a, e, _, wf⟩ := DataW.trod_int Try.underlying5 h
      injection e with e
      exact ⟨a, e, u8_bd wf⟩
    have hbt : ∀ (f : Field), DataW.trod enc Try.prog W 0 (fun _ => true) true m f.type (([c0, c1, c2, c3, c4, c5, c6, c7, c8].drop f.offset).take (Try.prog.cellsOf f.type)) = xs[0]? → f.type = 23 → ([c0, c1, c2, c3, c4, c5, c6, c7, c8].drop f.offset).take 3 = [c0, c1, c2] → ∃ x : Bt, c0 = .int .i64 x.cap ∧ c1 = .int .i64 x.chg ∧ c2 = .int .i64 x.res ∧ x.Ok := by
      intro f h ht hc
      rw [ht, cellsBt, hc, List.getElem?_eq_getElem (by omega)] at h
      exact three_Bt h
    have hsl : ∀ (f : Field), DataW.trod enc Try.prog W 0 (fun _ => true) true m f.type (([c0, c1, c2, c3, c4, c5, c6, c7, c8].drop f.offset).take (Try.prog.cellsOf f.type)) = xs[1]? → f.type = 44 → ([c0, c1, c2, c3, c4, c5, c6, c7, c8].drop f.offset).take 1 = [c3] → ∃ (A : Option Addr) (n c : Nat) (z : List Int), c3 = .slice A n c ∧ z.length = n ∧ (n ≤ c ∧ c ≤ maxLen) ∧ RdI W W.heap.size .u16 A z ∧ (∀ n ∈ z, (Lit.int .u16 n).wf = true) := by
      intro f h ht hc
      rw [ht, cellsU16s, hc, List.getElem?_eq_getElem (by omega)] at h
      obtain ⟨A, l, c, zs, hcs, h1, h2, h3, h4, h5, h6, h7⟩ := O.open_is Try.underlying44 Try.underlying38 cellsU16 h
      injection hcs with hcs
      exact ⟨A, l, c, zs, hcs, h1, ⟨h2, h3⟩, h5, h6⟩
    obtain ⟨x, rfl, rfl, rfl, hxo⟩ := hbt _ (hff 0 _ rfl) rfl rfl
    obtain ⟨A, n, c, z, rfl, hz1, hz2, hz3, hz4⟩ := hsl _ (hff 1 _ rfl) rfl rfl
    obtain ⟨a4, rfl, w4⟩ := u8 2 c4 _ (hff 2 _ rfl) rfl rfl (by omega)
    obtain ⟨a5, rfl, w5⟩ := u16 3 c5 _ (hff 3 _ rfl) rfl rfl (by omega)
    obtain ⟨a6, rfl, w6⟩ := u16 4 c6 _ (hff 4 _ rfl) rfl rfl (by omega)
    obtain ⟨a7, rfl, w7⟩ := u16 5 c7 _ (hff 5 _ rfl) rfl rfl (by omega)
    obtain ⟨a8, rfl, w8⟩ := u16 6 c8 _ (hff 6 _ rfl) rfl rfl (by omega)
    exact ⟨x, A, n, c, z, a4, a5, a6, a7, a8, rfl, hxo, hz1, hz2, hz3, hz4, w4, w5, w6, w7, w8⟩
end Pw
end Go.Proofs.Ytobbnbelacncjaa

namespace Go.Proofs.Ytobbnbelacncjaa
open Go.RowKit
namespace Pw
open H
set_option linter.unusedVariables false
set_option linter.unusedSimpArgs false
set_option maxRecDepth 100000
theorem rtable92_any (l : List Int) (A : Option Addr) (cap B : Nat) (w : World) (hB : B ≤ w.heap.size) (hlen : l.length ≤ 9223372036854775807) (hl : ∀ n ∈ l, 0 ≤ n ∧ n < 65536) (hR : RdI w B .u16 A l) :
    Calls Try.prog 23 #[.slice A l.length cap] w fun e w' => ∃ A c, e = .returned (.slice A (tabL l).length c) ∧ Q.RdsWn w' w'.heap.size A (tabL l) ∧ (∀ ad, A = some ad → w.heap.size ≤ ad.block) ∧ Below w.heap.size w w' := by
  refine (rtable9_any l A cap B w hB hlen hl hR).mono ?_
  rintro e w' ⟨v, rfl, ho, hB⟩
  obtain ⟨A, c, rfl⟩ := own_shape6 ho
  refine ⟨A, c, rfl, own_rds6 ho, fun ad ha => ?_, hB⟩
  obtain ⟨_, ⟨hv, h0⟩ | ⟨g, cap, cur, hv, hg, _⟩⟩ := ho
  · injection hv with e1
    rw [ha] at e1
    cases e1
  · injection hv with e1
    rw [ha] at e1
    rw [Option.some.inj e1]
    exact hg
theorem rds_set {W : World} {B b i : Nat} {v : Value} {A : Option Addr} {T : List Q.Wn} (h : Q.RdsWn W B A T) (hne : ∀ ad, A = some ad → ad.block ≠ b) : Q.RdsWn (W.setCell ⟨b, i, none⟩ v) B A T := fun j x hx => by
  obtain ⟨ad, e, ha, hr⟩ := h j x hx
  have hb : (ad.add (j * 6)).block ≠ b := by rw [add_block]; exact hne ad e
  exact ⟨ad, e, ha, cell_oth hr.c0 hb, cell_oth hr.c1 hb, cell_oth hr.c2 hb, cell_oth hr.c3 hb, cell_oth hr.c4 hb, cell_oth hr.c5 hb⟩
set_option maxHeartbeats 8000000 in
theorem made_any (x : Bt) (A : Option Addr) (c : Nat) (z : List Int) (cr fr un es su : Int) (w : World) (hx : x.Ok) (hlen : z.length ≤ 9223372036854775807) (hz : ∀ n ∈ z, 0 ≤ n ∧ n < 65536) (hR : RdI w w.heap.size .u16 A z) (h4 : 0 ≤ cr ∧ cr < 256) (h5 : 0 ≤ fr ∧ fr < 65536) (h6 : 0 ≤ un ∧ un < 65536) (h7 : 0 ≤ es ∧ es < 65536) (h8 : 0 ≤ su ∧ su < 65536) :
    Calls Try.prog 26 #[caV x A z.length c cr fr un es su] w fun e w' => ∃ A1 c1, e = .returned (.tuple #[(madeB x 200000).v, .slice A1 (tabL z).length c1, .int .i64 (cr % 3), .int .i64 (fr % 1101), .int .i64 (un % 1101)]) ∧ Q.RdsWn w' w'.heap.size A1 (tabL z) ∧ Below w.heap.size w w' := by
  have HT := Lib.hid (fun W (hW : Below w.heap.size w W) => rtable92_any z A c w.heap.size W hW.size hlen hz (hR.below hW))
  have HB := Lib.hid (fun W => rmadeb_any x 200000 W hx.1 hx.2.1 hx.2.2 (by omega))
  have t1 : cr.tmod 3 = cr % 3 := Int.tmod_eq_emod_of_nonneg h4.1
  have t2 : fr.tmod 1101 = fr % 1101 := Int.tmod_eq_emod_of_nonneg h5.1
  have t3 : un.tmod 1101 = un % 1101 := Int.tmod_eq_emod_of_nonneg h6.1
  generalize z.length = zl at *
  generalize tabL z = T at *
  generalize T.length = tl at *
  obtain ⟨⟨mc, mg, mr⟩, hm⟩ : ∃ m, madeB x 200000 = m := ⟨_, rfl⟩
  rw [hm] at HB ⊢
  obtain ⟨xc, xg, xr⟩ := x
  dsimp only [Bt.v] at *
  clear hm hR hx hz
  go_enter Try.func26, Try.ntmps26
  go_upto_region 1 with fail
  obtain ⟨W2, hW2⟩ : ∃ W2, W2 = (w.alloc (Obj.cells #[.int .i64 xc, .int .i64 xg, .int .i64 xr, .slice A zl c, .int .u8 cr, .int .u16 fr, .int .u16 un, .int .u16 es, .int .u16 su] 50)).alloc (Obj.cells #[.int .i64 0, .int .i64 0, .int .i64 0] 23) := ⟨_, rfl⟩
  have hbx : W2.heap[w.heap.size + 1]? = some (.cells #[.int .i64 0, .int .i64 0, .int .i64 0] 23 (0, 0)) := by
    have h := heap_top (w.alloc (Obj.cells #[.int .i64 xc, .int .i64 xg, .int .i64 xr, .slice A zl c, .int .u8 cr, .int .u16 fr, .int .u16 un, .int .u16 es, .int .u16 su] 50)) (Obj.cells #[.int .i64 0, .int .i64 0, .int .i64 0] 23)
    rw [World.size_alloc] at h
    rw [hW2]
    exact h
  have B2 : Hid (Below w.heap.size w W2) := Lib.hid (by rw [hW2]; exact bel2 w _ _)
  have n2 : W2.cell? ⟨w.heap.size, 0, none⟩ = some (.int .i64 xc) ∧ W2.cell? ⟨w.heap.size, 1, none⟩ = some (.int .i64 xg) ∧ W2.cell? ⟨w.heap.size, 2, none⟩ = some (.int .i64 xr) ∧ W2.cell? ⟨w.heap.size, 3, none⟩ = some (.slice A zl c) ∧ W2.cell? ⟨w.heap.size, 4, none⟩ = some (.int .u8 cr) ∧ W2.cell? ⟨w.heap.size, 5, none⟩ = some (.int .u16 fr) ∧ W2.cell? ⟨w.heap.size, 6, none⟩ = some (.int .u16 un) := by
    rw [hW2]
    exact ⟨below_cell (bel1 _ _) (cell_top _ _ _ _), below_cell (bel1 _ _) (cell_top _ _ _ _), below_cell (bel1 _ _) (cell_top _ _ _ _), below_cell (bel1 _ _) (cell_top _ _ _ _), below_cell (bel1 _ _) (cell_top _ _ _ _), below_cell (bel1 _ _) (cell_top _ _ _ _), below_cell (bel1 _ _) (cell_top _ _ _ _)⟩
  rw [← hW2]
  have B1 : Hid (Below w.heap.size w W2.drew) := Lib.hid (bt B2.out (below_drew W2))
  have hB := below_drew W2
  have N2 := Lib.hid n2
  have N1 := Lib.hid (⟨below_cell hB (N2.out.1), below_cell hB (N2.out.2.1), below_cell hB (N2.out.2.2.1), below_cell hB (N2.out.2.2.2.1), below_cell hB (N2.out.2.2.2.2.1), below_cell hB (N2.out.2.2.2.2.2.1), below_cell hB (N2.out.2.2.2.2.2.2)⟩ : W2.drew.cell? ⟨w.heap.size, 0, none⟩ = some (.int .i64 xc) ∧ W2.drew.cell? ⟨w.heap.size, 1, none⟩ = some (.int .i64 xg) ∧ W2.drew.cell? ⟨w.heap.size, 2, none⟩ = some (.int .i64 xr) ∧ W2.drew.cell? ⟨w.heap.size, 3, none⟩ = some (.slice A zl c) ∧ W2.drew.cell? ⟨w.heap.size, 4, none⟩ = some (.int .u8 cr) ∧ W2.drew.cell? ⟨w.heap.size, 5, none⟩ = some (.int .u16 fr) ∧ W2.drew.cell? ⟨w.heap.size, 6, none⟩ = some (.int .u16 un))
  have X1 := Lib.hid (heap_keep hB hbx)
  clear hB hW2 hbx n2
  have HW1 : Hid (IntKind.i64.wrap (cr % 3) = cr % 3) := Lib.hid (IntWalk.i64_in _ (by omega))
  have HW2 : Hid (IntKind.i64.wrap fr = fr) := Lib.hid (IntWalk.i64_in _ (by omega))
  have HW3 : Hid (IntKind.i64.wrap un = un) := Lib.hid (IntWalk.i64_in _ (by omega))
  have HSZ : Hid (w.heap.size + 1 < W2.drew.heap.size) := Lib.hid (hlt_of X1.out)
  have HY : Hid (∀ W : World, W.heap[w.heap.size + 1]? = some (.cells #[.int .i64 0, .int .i64 0, .int .i64 0] 23 (0, 0)) → W.cell? ⟨w.heap.size + 1, 0, none⟩ = some (.int .i64 0) ∧ W.cell? ⟨w.heap.size + 1, 1, none⟩ = some (.int .i64 0) ∧ W.cell? ⟨w.heap.size + 1, 2, none⟩ = some (.int .i64 0)) := Lib.hid (fun W h => ⟨by rw [cell_obj h]; rfl, by rw [cell_obj h]; rfl, by rw [cell_obj h]; rfl⟩)
  have HZ : Hid (∀ (W : World) (u0 u1 u2 : Value), (W.cell? ⟨w.heap.size, 0, none⟩ = some (.int .i64 xc) ∧ W.cell? ⟨w.heap.size, 1, none⟩ = some (.int .i64 xg) ∧ W.cell? ⟨w.heap.size, 2, none⟩ = some (.int .i64 xr) ∧ W.cell? ⟨w.heap.size, 3, none⟩ = some (.slice A zl c) ∧ W.cell? ⟨w.heap.size, 4, none⟩ = some (.int .u8 cr) ∧ W.cell? ⟨w.heap.size, 5, none⟩ = some (.int .u16 fr) ∧ W.cell? ⟨w.heap.size, 6, none⟩ = some (.int .u16 un)) → (((W.setCell ⟨w.heap.size + 1, 0, none⟩ u0).setCell ⟨w.heap.size + 1, 1, none⟩ u1).setCell ⟨w.heap.size + 1, 2, none⟩ u2).cell? ⟨w.heap.size, 0, none⟩ = some (.int .i64 xc) ∧ (((W.setCell ⟨w.heap.size + 1, 0, none⟩ u0).setCell ⟨w.heap.size + 1, 1, none⟩ u1).setCell ⟨w.heap.size + 1, 2, none⟩ u2).cell? ⟨w.heap.size, 1, none⟩ = some (.int .i64 xg) ∧ (((W.setCell ⟨w.heap.size + 1, 0, none⟩ u0).setCell ⟨w.heap.size + 1, 1, none⟩ u1).setCell ⟨w.heap.size + 1, 2, none⟩ u2).cell? ⟨w.heap.size, 2, none⟩ = some (.int .i64 xr) ∧ (((W.setCell ⟨w.heap.size + 1, 0, none⟩ u0).setCell ⟨w.heap.size + 1, 1, none⟩ u1).setCell ⟨w.heap.size + 1, 2, none⟩ u2).cell? ⟨w.heap.size, 3, none⟩ = some (.slice A zl c) ∧ (((W.setCell ⟨w.heap.size + 1, 0, none⟩ u0).setCell ⟨w.heap.size + 1, 1, none⟩ u1).setCell ⟨w.heap.size + 1, 2, none⟩ u2).cell? ⟨w.heap.size, 4, none⟩ = some (.int .u8 cr) ∧ (((W.setCell ⟨w.heap.size + 1, 0, none⟩ u0).setCell ⟨w.heap.size + 1, 1, none⟩ u1).setCell ⟨w.heap.size + 1, 2, none⟩ u2).cell? ⟨w.heap.size, 5, none⟩ = some (.int .u16 fr) ∧ (((W.setCell ⟨w.heap.size + 1, 0, none⟩ u0).setCell ⟨w.heap.size + 1, 1, none⟩ u1).setCell ⟨w.heap.size + 1, 2, none⟩ u2).cell? ⟨w.heap.size, 6, none⟩ = some (.int .u16 un)) := Lib.hid (fun W u0 u1 u2 h => ⟨cell_oth (cell_oth (cell_oth h.1 (by simp)) (by simp)) (by simp), cell_oth (cell_oth (cell_oth h.2.1 (by simp)) (by simp)) (by simp), cell_oth (cell_oth (cell_oth h.2.2.1 (by simp)) (by simp)) (by simp), cell_oth (cell_oth (cell_oth h.2.2.2.1 (by simp)) (by simp)) (by simp), cell_oth (cell_oth (cell_oth h.2.2.2.2.1 (by simp)) (by simp)) (by simp), cell_oth (cell_oth (cell_oth h.2.2.2.2.2.1 (by simp)) (by simp)) (by simp), cell_oth (cell_oth (cell_oth h.2.2.2.2.2.2 (by simp)) (by simp)) (by simp)⟩)
  go_region_held3 (fun W => W.cell? ⟨w.heap.size, 0, none⟩ = some (.int .i64 xc) ∧ W.cell? ⟨w.heap.size, 1, none⟩ = some (.int .i64 xg) ∧ W.cell? ⟨w.heap.size, 2, none⟩ = some (.int .i64 xr) ∧ W.cell? ⟨w.heap.size, 3, none⟩ = some (.slice A zl c) ∧ W.cell? ⟨w.heap.size, 4, none⟩ = some (.int .u8 cr) ∧ W.cell? ⟨w.heap.size, 5, none⟩ = some (.int .u16 fr) ∧ W.cell? ⟨w.heap.size, 6, none⟩ = some (.int .u16 un)) (with_reducible (first | exact N1.out | exact N3.out | exact N4.out | exact HZ.out _ _ _ _ N4.out))
    ((first
      | (go_at_call 21; with_reducible refine (HB.out _).mono ?_; rintro e w3 ⟨rfl, hB⟩; have N3 := Lib.hid (⟨below_cell hB (N1.out.1), below_cell hB (N1.out.2.1), below_cell hB (N1.out.2.2.1), below_cell hB (N1.out.2.2.2.1), below_cell hB (N1.out.2.2.2.2.1), below_cell hB (N1.out.2.2.2.2.2.1), below_cell hB (N1.out.2.2.2.2.2.2)⟩ : w3.cell? ⟨w.heap.size, 0, none⟩ = some (.int .i64 xc) ∧ w3.cell? ⟨w.heap.size, 1, none⟩ = some (.int .i64 xg) ∧ w3.cell? ⟨w.heap.size, 2, none⟩ = some (.int .i64 xr) ∧ w3.cell? ⟨w.heap.size, 3, none⟩ = some (.slice A zl c) ∧ w3.cell? ⟨w.heap.size, 4, none⟩ = some (.int .u8 cr) ∧ w3.cell? ⟨w.heap.size, 5, none⟩ = some (.int .u16 fr) ∧ w3.cell? ⟨w.heap.size, 6, none⟩ = some (.int .u16 un)); have X3 := Lib.hid (heap_keep hB X1.out); have B3 := Lib.hid (bt B1.out hB); have S3 := Lib.hid hB.size; clear hB)
      | (go_at_call 23; with_reducible refine (HT.out _ B3.out).mono ?_; rintro e w4 ⟨A4, c4, rfl, r4, hfr, hB⟩; have F4 := Lib.hid hfr; have N4 := Lib.hid (⟨below_cell hB (N3.out.1), below_cell hB (N3.out.2.1), below_cell hB (N3.out.2.2.1), below_cell hB (N3.out.2.2.2.1), below_cell hB (N3.out.2.2.2.2.1), below_cell hB (N3.out.2.2.2.2.2.1), below_cell hB (N3.out.2.2.2.2.2.2)⟩ : w4.cell? ⟨w.heap.size, 0, none⟩ = some (.int .i64 xc) ∧ w4.cell? ⟨w.heap.size, 1, none⟩ = some (.int .i64 xg) ∧ w4.cell? ⟨w.heap.size, 2, none⟩ = some (.int .i64 xr) ∧ w4.cell? ⟨w.heap.size, 3, none⟩ = some (.slice A zl c) ∧ w4.cell? ⟨w.heap.size, 4, none⟩ = some (.int .u8 cr) ∧ w4.cell? ⟨w.heap.size, 5, none⟩ = some (.int .u16 fr) ∧ w4.cell? ⟨w.heap.size, 6, none⟩ = some (.int .u16 un)); have X4 := Lib.hid (heap_keep hB X3.out); have B4 := Lib.hid (bt B3.out hB); have R4 := Lib.hid r4; obtain ⟨y0, y1, y2⟩ := HY.out w4 X4.out; have f0 := frz_obj X4.out 0; have f1 := frz_obj X4.out 1; have f2 := frz_obj X4.out 2; clear hB r4 hfr)))
  rw [HW1.out, HW2.out, HW3.out, t2, t3]
  have HF4 : Hid (∀ ad, A4 = some ad → ad.block ≠ w.heap.size + 1) := Lib.hid (fun ad ha => by have h1 := F4.out ad ha; have h2 := HSZ.out; have h3 := S3.out; omega)
  have R7 := Lib.hid (rds_set (i := 2) (v := .int .i64 mr) (rds_set (i := 1) (v := .int .i64 mg) (rds_set (i := 0) (v := .int .i64 mc) R4.out HF4.out) HF4.out) HF4.out)
  have B7 := Lib.hid (((B4.out.setCell (p := ⟨w.heap.size + 1, 0, none⟩) (Nat.le_succ _) (.int .i64 mc)).setCell (p := ⟨w.heap.size + 1, 1, none⟩) (Nat.le_succ _) (.int .i64 mg)).setCell (p := ⟨w.heap.size + 1, 2, none⟩) (Nat.le_succ _) (.int .i64 mr))
  have v1 := hset (i := 2) (.int .i64 mr) (hset (i := 1) (.int .i64 mg) (hset (i := 0) (.int .i64 mc) X4.out))
  obtain ⟨V, hV⟩ : ∃ V, V = (((w4.setCell ⟨w.heap.size + 1, 0, none⟩ (.int .i64 mc)).setCell ⟨w.heap.size + 1, 1, none⟩ (.int .i64 mg)).setCell ⟨w.heap.size + 1, 2, none⟩ (.int .i64 mr)) := ⟨_, rfl⟩
  have hvs : V.heap.size = w4.heap.size := by rw [hV]; simp
  have RV : Hid (Q.RdsWn V V.heap.size A4 T) := Lib.hid (by rw [hvs, hV]; exact R7.out)
  have BV : Hid (Below w.heap.size w V) := Lib.hid (by rw [hV]; exact B7.out)
  rw [← hV] at v1 ⊢
  clear hV
  have e0 : V.cell? ⟨w.heap.size + 1, 0, none⟩ = some (.int .i64 mc) := by rw [cell_obj v1]; rfl
  have e1 : V.cell? ⟨w.heap.size + 1, 1, none⟩ = some (.int .i64 mg) := by rw [cell_obj v1]; rfl
  have e2 : V.cell? ⟨w.heap.size + 1, 2, none⟩ = some (.int .i64 mr) := by rw [cell_obj v1]; rfl
  clear v1
  go_wp2_with fail
  refine bodyPost_ret (v := .tuple #[.agg #[.int .i64 mc, .int .i64 mg, .int .i64 mr], .slice A4 tl c4, .int .i64 (cr % 3), .int .i64 (fr % 1101), .int .i64 (un % 1101)]) (by simp [results, Try.results26, go_sem, e0, e1, e2]) rfl ?_
  exact ⟨A4, c4, rfl, RV.out, BV.out⟩
end Pw
end Go.Proofs.Ytobbnbelacncjaa
