/-
  slices.Values, its iterator, slices.AppendSeq, slices.Collect, slices.SortedFunc at loads.
-/
import Derived.Test.YtobbnbelacncjaaPwSort
import Derived.Test.YtobbnbelacncjaaQFst
import Derived.Test.YtobbnbelacncjaaPwOrd
namespace Go.Proofs.Ytobbnbelacncjaa
open Go.RowKit Go.Shelf
attribute [local go_sem] Oper.semAt_some
namespace Pw
open H
open Q (Kf)
set_option linter.unusedVariables false
set_option linter.unusedSimpArgs false
set_option maxRecDepth 100000
/-- The box of a load. -/
def Lb (W : World) (b : Nat) (x : Ld) : Prop := W.heap[b]? = some (.cells #[.int .i64 x.id, .int .i64 x.pow, .int .i64 x.pri, .bool x.ess] 41 (0, 0))
theorem Lb.new (W : World) (x : Ld) : Lb (W.alloc (.cells #[.int .i64 x.id, .int .i64 x.pow, .int .i64 x.pri, .bool x.ess] 41)) W.heap.size x := heap_top W _
theorem Lb.cells {W : World} {b : Nat} {x : Ld} (h : Lb W b x) : W.cell? ⟨b, 0, none⟩ = some (.int .i64 x.id) ∧ W.cell? ⟨b, 1, none⟩ = some (.int .i64 x.pow) ∧ W.cell? ⟨b, 2, none⟩ = some (.int .i64 x.pri) ∧ W.cell? ⟨b, 3, none⟩ = some (.bool x.ess) :=
  ⟨by rw [cell_obj h]; rfl, by rw [cell_obj h]; rfl, by rw [cell_obj h]; rfl, by rw [cell_obj h]; rfl⟩
theorem take_next {T : List Ld} {k : Nat} {x : Ld} (h : T[k]? = some x) : T.take (k + 1) = T.take k ++ [x] := by
  rw [List.take_add_one, h]; rfl
theorem kf_rds {F : Nat → Prop} {w W : World} {B : Nat} {A : Option Addr} {T : List Ld} (h : Kf F w.heap.size w W) (hR : RdsLd w B A T) (hB : B ≤ w.heap.size) (hf : ∀ b, b < B → ¬ F b) : RdsLd W w.heap.size A T := fun j x hx => by
  obtain ⟨ad, e, ha, hr⟩ := hR j x hx
  have hlt : (ad.add (j * 4)).block < B := by rw [add_block]; exact ha
  have hc : ∀ p : Addr, p.block = (ad.add (j * 4)).block → W.cell? p = w.cell? p := fun p hp => h.cell (by omega) (hf _ (by omega))
  exact ⟨ad, e, by omega, (hc (ad.add (j * 4)) rfl).trans hr.c0, (hc ⟨(ad.add (j * 4)).block, (ad.add (j * 4)).off + 1, none⟩ rfl).trans hr.c1, (hc ⟨(ad.add (j * 4)).block, (ad.add (j * 4)).off + 2, none⟩ rfl).trans hr.c2, (hc ⟨(ad.add (j * 4)).block, (ad.add (j * 4)).off + 3, none⟩ rfl).trans hr.c3⟩
set_option maxHeartbeats 4000000 in
theorem vals1_in (n : Nat) (hn : 1 ≤ n) (l Bt : Nat) (A : Option Addr) (cap : Nat) (T : List Ld) (len0 : Nat) (R : World → Prop) (Kp : World → World → Prop) (hRc : ∀ W V, R W → Below W.heap.size W V → R V) (hRk : ∀ W V, R W → Kp W V → R V)
    (hlen : T.length ≤ 140737488351232) (J Jx : List Ld → World → Prop) (B : Nat) (hJ : AbidesFrom B J)
    (hY : ∀ pre (x : Ld) W1, J pre W1 → pre.length < T.length → YieldAt Fence.wide (n - 1) Try.prog l #[x.v] W1 fun e W' => (e = .returned (.bool true) ∧ J (pre ++ [x]) W' ∧ Kp W1 W') ∨ (e = .returned (.bool false) ∧ Jx (pre ++ [x]) W'))
    (W : World) (hW : R W) (hT : ∀ W, R W → Q.Sb W Bt (.slice A T.length cap)) (hR : ∀ W, R W → RdsLd W len0 A T) (h0 : J [] W) :
    CallsIn Fence.wide n Try.prog 53 #[.func (.yield l) #[] #[], bp Bt] W fun e W' => (∃ v, e = .returned v) ∧ ((∃ ys, ys = T ∧ J ys W') ∨ (∃ pre, pre <+: T ∧ Jx pre W')) := by
  have HRC := Lib.hid hRc
  have HRK := Lib.hid hRk
  clear hRc hRk
  have HJ := Lib.hid (fun s (W W' : World) (h : J s W) (hB : Below W.heap.size W W') => Q.abides_below hJ h hB)
  have HY := Lib.hid hY
  have HTb : Hid (∀ W', R W' → W'.cell? ⟨Bt, 0, none⟩ = some (.slice A T.length cap)) := Lib.hid (fun W' h => hT W' h)
  have HR := Lib.hid hR
  have HGET := Lib.hid (fun k (hk : k < T.length) => (⟨T[k], List.getElem?_eq_getElem hk⟩ : ∃ x, T[k]? = some x))
  have HYES := Lib.hid (fun k x (h : T[k]? = some x) => take_next h)
  have HL : Hid (∀ k, (T.take k).length ≤ k) := Lib.hid (fun k => List.length_take_le _ _)
  have HALL : Hid (T.take T.length = T) := Lib.hid (List.take_length)
  have HPRE : Hid (∀ k, T.take k <+: T) := Lib.hid (fun k => List.take_prefix _ _)
  have HSTART : Hid (J (T.take 0) W) := Lib.hid (by rw [List.take_zero]; exact h0)
  have HW := Lib.hid hW
  have b1 := HTb.out W hW
  clear hJ hY hW hT hR h0
  generalize hlenT : T.length = len at *
  have HLEN := Lib.hid hlenT
  clear hlenT
  refine callsIn_of_wp Try.func53 rfl trivial ?_ rfl
  simp only [Try.ntmps53, List.size_toArray, List.length_cons, List.length_nil, Nat.reduceAdd, Nat.reduceSub, Array.replicate_succ, Array.replicate_zero, List.push_toArray, List.append_toArray, List.nil_append, List.cons_append]
  gi_wp2
  gi_loopw [7] (fun i wr => ∃ k : Nat, k ≤ len ∧ i = .int .i64 k ∧ J (T.take k) wr ∧ R wr) (fun i _ => len - (intOf i).toNat)
  case atStart => exact ⟨0, Nat.zero_le _, rfl, HSTART.out, HW.out⟩
  case round =>
    obtain ⟨k, hk, rfl, hi, hB⟩ := hrel
    have BEL := Lib.hid hB
    have HI := Lib.hid hi
    clear hi hB
    by_cases hlt : k < len
    · have hki : (k : Int) < (len : Int) := by omega
      have HLT := Lib.hid hlt
      obtain ⟨x, hx⟩ := HGET.out k hlt
      obtain ⟨ad, rfl, _, hr⟩ := HR.out wr BEL.out k x hx
      have c0 := hr.c0
      have c1 := hr.c1
      have c2 := hr.c2
      have c3 := hr.c3
      have b2 := HTb.out wr BEL.out
      obtain ⟨X, hX⟩ : ∃ X, X = wr.alloc (.cells #[.int .i64 x.id, .int .i64 x.pow, .int .i64 x.pri, .bool x.ess] 41) := ⟨_, rfl⟩
      have HXB : Hid (Below wr.heap.size wr X) := Lib.hid (by rw [hX]; exact bel1 wr _)
      have HBX := Lib.hid (HRC.out _ _ BEL.out HXB.out)
      have HYx : Hid (∀ W1, J (T.take k) W1 → YieldAt Fence.wide (n - 1) Try.prog l #[x.v] W1 fun e W' => (e = .returned (.bool true) ∧ J (T.take (k + 1)) W' ∧ Kp W1 W') ∨ (e = .returned (.bool false) ∧ Jx (T.take (k + 1)) W')) := Lib.hid (fun W1 h => by
        rw [HYES.out k x hx]
        exact HY.out (T.take k) x W1 h (Nat.lt_of_le_of_lt (HL.out k) hlt))
      obtain ⟨fn, tmps, assign, body, hy, hR⟩ := HYx.out X (HJ.out _ wr X HI.out HXB.out)
      rw [hX] at hy hR
      have HXX := Lib.hid hX
      clear hx hlt hr hX
      gi_wp2
      refine hR.mono ?_
      rintro e W3 (⟨rfl, hJ3, hk3⟩ | ⟨rfl, hx3⟩)
      · have HJ3 := Lib.hid hJ3
        have HB3 := Lib.hid (HRK.out _ _ HBX.out (by rw [HXX.out]; exact hk3))
        clear hJ3 hk3 hR hy
        gi_wp2
        go_roundw
        case rel => exact ⟨k + 1, by have := HLT.out; omega, by go_num, HJ3.out, HB3.out⟩
        case measure => simp [intOf]; have := HLT.out; omega
      · have HX3 := Lib.hid hx3
        clear hx3 hR hy
        gi_wp2
        refine bodyPost_ret (results_none rfl _ _ _) rfl ?_
        exact ⟨⟨_, rfl⟩, .inr ⟨_, HPRE.out (k + 1), HX3.out⟩⟩
    · obtain rfl : k = len := by omega
      have HE : Hid (J T wr) := Lib.hid (by rw [← HALL.out]; exact HI.out)
      clear hlt
      gi_wp2
      go_end0
      exact ⟨⟨_, rfl⟩, .inl ⟨_, rfl, HE.out⟩⟩
theorem vals_stops (n : Nat) (hn : 1 ≤ n) (Bt : Nat) (A : Option Addr) (cap : Nat) (T : List Ld) (F : Nat → Prop) (w : World) (hlen : T.length ≤ 140737488351232)
    (hT : ∀ W, Kf F w.heap.size w W → Q.Sb W Bt (.slice A T.length cap)) (hR : ∀ W, Kf F w.heap.size w W → RdsLd W w.heap.size A T) :
    SeqStopsK Fence.wide n Try.prog 53 #[bp Bt] (fun x : Ld => #[x.v]) (Kf F w.heap.size) (fun ys => ys = T) (fun pre => pre <+: T) T.length w := fun l J Jx W hW hJ hJx hY h0 =>
  vals1_in n hn l Bt A cap T w.heap.size (Kf F w.heap.size w) (Kf F w.heap.size) (fun W V h hB => h.call hB) (fun W V h k => h.trans k) hlen J Jx _ hJ hY W (Kf.of hW (Nat.le_refl _)) hT hR h0
set_option maxHeartbeats 1000000 in
theorem pvals_any (A : Option Addr) (len cap : Nat) (w : World) :
    Calls Try.prog 38 #[.slice A len cap] w fun e w' => e = .returned (.func (.func 53) #[] #[bp w.heap.size]) ∧ Q.Sb w' w.heap.size (.slice A len cap) ∧ Below w.heap.size w w' ∧ w'.heap.size = w.heap.size + 1 := by
  go_enter Try.func38, Try.ntmps38
  go_wp2_with fail
  go_ret
  exact ⟨rfl, cell_top _ _ _ _, bel1 w _, by simp⟩
theorem own_keeps4 {W w1 : World} {base k : Nat} {e : TypeId} {v : Value} {xs : List Value} {tmp : Obj} (hrow : W.ownsRow base e 4 v k xs) (hgrow : (W.alloc tmp).grownBy w1 v.ownBlock) : KeepsOthers W w1 := by
  refine (KeepsOthers.alloc W tmp).trans (KeepsOthers.of_grownBy hgrow fun j o ej hj => ?_)
  rcases (hrow.alloc tmp).2 with ⟨rfl, _⟩ | ⟨g, cap, cur, rfl, _, hgb, _⟩
  · simp [Value.ownBlock] at ej
  · obtain rfl : g = j := by simpa [Value.ownBlock] using ej
    rw [hgb] at hj; cases hj; rfl
theorem own_ne4 {w : World} {n m k : Nat} {e : TypeId} {v : Value} {xs : List Value} (h : w.ownsRow n e 4 v m xs) (hk : k < n) : v.ownBlock ≠ some k := by
  rcases h.2 with ⟨rfl, _⟩ | ⟨g, cap, cur, rfl, hb, _⟩
  · simp [Value.ownBlock]
  · intro e2
    have : g = k := by simpa [Value.ownBlock] using e2
    omega
theorem row_oth {W w1 : World} {n m k : Nat} {e : TypeId} {v : Value} {xs : List Value} {o ob : Obj} (h : W.ownsRow n e 4 v m xs) (hg : (W.alloc o).grownBy w1 v.ownBlock) (hk : k < n) (hb : W.heap[k]? = some ob) : w1.heap[k]? = some ob :=
  (hg.block k (by have := hlt_of hb; simp; omega) (fun e => own_ne4 h hk (by first | exact e | exact e.symm))).trans (heap_keep (bel1 W o) hb)
theorem own_row {β : Type} {B : Nat} (b base : Nat) (t e : TypeId) (f : β → List Value) (m : β → Nat) : OwnFrom B (fun s W => ∃ v, Boxed W b t v ∧ W.ownsRow base e 4 v (m s) (f s)) := by
  rintro s W W' row ⟨v, hb, ho⟩ hg hr
  refine ⟨v, Q.heap_own hb rfl hg (fun r e => (hr r e).2), ho.kept hg ?_⟩
  rcases ho.2 with ⟨rfl, _⟩ | ⟨g, cap, cur, rfl, _, hgb, _⟩
  · exact .inl rfl
  · refine .inr fun e' => ?_
    obtain ⟨_, o, ho2, hc⟩ := hr g (by rw [← e']; rfl)
    rw [hgb] at ho2
    cases ho2
    cases hc
set_option maxHeartbeats 4000000 in
theorem pappseq_any (T : List Ld) (A : Option Addr) (cap B Bt : Nat) (w : World) (hB : B ≤ w.heap.size) (hlen : T.length ≤ 1000) (hb : Q.Sb w Bt (.slice A T.length cap)) (hR : RdsLd w B A T) :
    Calls Try.prog 68 #[.slice none 0 0, .func (.func 53) #[] #[bp Bt]] w fun e w' => ∃ v, e = .returned v ∧ w'.ownsRow (w.heap.size + 1) 41 4 v T.length (flat4 T) ∧ Below w.heap.size w w' := by
  obtain ⟨i0, hi, hz0, hz1, hz2⟩ := info_parts infoL
  obtain ⟨W1, hW1⟩ : ∃ W1, W1 = w.alloc (.cells #[.slice none 0 0] 24) := ⟨_, rfl⟩
  have z1 : Boxed W1 w.heap.size 24 (.slice none 0 0) := by rw [hW1]; exact Boxed.new w _ _
  have bel : Below w.heap.size w W1 := by rw [hW1]; exact bel1 w _
  have hsz : W1.heap.size = w.heap.size + 1 := by rw [hW1]; simp
  have hbt : Bt < w.heap.size := World.block_lt_of_cell? _ _ hb
  have HST := Lib.hid (vals_stops 2 (by omega) Bt A cap T (fun b => b = w.heap.size) W1 (by omega)
    (fun V h => h.sb (hb.call bel) (by omega)) (fun V h => kf_rds h (hR.below (bel.mono hB)) (by omega) (fun b hb => by omega)))
  have HW1 := Lib.hid hW1
  have HBEL := Lib.hid bel
  have HSZ := Lib.hid hsz
  clear hb hR hW1 bel hsz hbt hB
  generalize hl : T.length = len at *
  have HL := Lib.hid hl
  clear hl
  refine (callsIn_wide (n := 3)).1 ?_
  refine callsIn_of_wp_marks Try.func68 rfl trivial ?_ rfl
  simp only [Try.ntmps68, List.size_toArray, List.length_cons, List.length_nil, Nat.reduceAdd, Nat.reduceSub, Array.replicate_succ, Array.replicate_zero, List.push_toArray, List.append_toArray, List.nil_append, List.cons_append]
  gi_wp2
  rw [← HW1.out]
  refine wpIn_rangeFunc_ownH rfl (by omega) (gf := 53) (lb := #[bp Bt]) rfl trivial (enters_of Try.func53 (by kernel_rfl) rfl) HST.out Kf.trans (Kf.b (Nat.le_refl _)) (Below.refl _ _) (fun _ => rfl)
    (fun pre W => (∃ v, Boxed W w.heap.size 24 v ∧ W.ownsRow (w.heap.size + 1) 41 4 v pre.length (flat4 pre)) ∧ (Below w.heap.size w W ∧ W1.heap.size ≤ W.heap.size))
    (fun _ _ _ => False)
    (OwnFrom.and (own_row _ _ _ _ _ _) (OwnFrom.and (ownFrom_below (Nat.le_refl _) HBEL.out.size) (fun _ _ _ _ hs hg _ => Nat.le_trans hs hg.size)))
    (fun _ _ _ _ _ hs _ _ => hs)
    ⟨⟨_, z1, World.ownsRow_nil _ _ _ _⟩, HBEL.out, Nat.le_refl _⟩
    (fun x a' W => ∃ Bx, W1.heap.size ≤ Bx ∧ Lb W Bx x ∧ a' = { tmps := #[.slice none 0 0, .func (.func 53) #[] #[bp Bt], bp w.heap.size, undef, .slice none 0 0, bp Bx, .func (.func 53) #[] #[bp Bt], x.v, undef, undef, undef, undef, undef], defers := [] })
    (fun x a' _ X Y row hs hg hr => by obtain ⟨Bx, h1, h2, h3⟩ := hs; exact ⟨Bx, h1, Q.heap_own h2 rfl hg (fun r e => (hr r e).2), h3⟩)
    ?assign ?body ?done ?stop
  case assign =>
    rintro l pre x W K ⟨⟨v, q1, ho⟩, hB, hge⟩ hK
    have hsW := hB.size
    gi_wp2
    exact hK _ _ ((KeepsOthers.alloc _ _).from _) (Kf.of ((Below.refl _ W).alloc hge _) (Nat.le_refl _)) ⟨⟨v, q1.alloc _, ho.alloc _⟩, hB.alloc hsW _, by simp; omega⟩ ⟨W.heap.size, hge, Lb.new W x, rfl⟩
  case body =>
    rintro l pre x a' W hl ⟨r, hr⟩ ⟨⟨v, q1, ho⟩, hB, hge⟩ ⟨Bx, hBx, bX, rfl⟩ hlt
    obtain ⟨A3, k3, rfl⟩ := own_shape4 ho
    obtain ⟨n0, n1, n2, n3⟩ := bX.cells
    have d1 := q1.cell
    have f1 := q1.frozen
    have HO := Lib.hid ho
    have QS := Lib.hid q1
    have QB := Lib.hid hB
    have QG := Lib.hid hge
    have HLT := Lib.hid hlt
    have hpl : pre.length < 1000 := by omega
    clear q1 hB hge hr bX ho hlt
    obtain ⟨xi, xp, xr, xe⟩ := x
    dsimp only at *
    gi_wp2_with (gi_at_builtin; refine wpListIn_append_own _ rfl (.tmp 8) (.tmp 10) 24 rfl (w.heap.size + 1) 41 i0 (.agg #[.int .i64 0, .int .i64 0, .int .i64 0, .bool false]) 4 32 Try.underlying24 hi hz0 hz1 hz2 rfl (by decide) (.slice A3 pre.length k3) pre.length (flat4 pre) rfl (HO.out.alloc _) ⟨W.heap.size, 0, none⟩ 1 1 (cells4 ⟨xi, xp, xr, xe⟩) rfl rfl (fun j u hu => by rw [ad_add]; exact cells4_new W ⟨xi, xp, xr, xe⟩ j u hu) (cells4_one _) (by unfold maxLen; omega) (by omega) (by have := QB.out.size; have := QG.out; have := HSZ.out; simp; omega) ?_; intro v' w1 hown' hgrow _; have HN := Lib.hid hown'; have HG := Lib.hid hgrow; obtain ⟨g2, c2, rfl⟩ := own_shape4 hown'; have hk1 : w1.heap[w.heap.size]? = some (.cells #[.slice A3 pre.length k3] 24 (0, 0)) := row_oth HO.out hgrow (Nat.lt_succ_self _) QS.out; have e1 : w1.cell? ⟨w.heap.size, 0, none⟩ = some (.slice A3 pre.length k3) := (Boxed.cell (t := 24) hk1); have e2 := Boxed.frozen (t := 24) hk1; clear hown' hgrow hk1)
    have HKP := Lib.hid (own_keeps4 HO.out HG.out)
    have HBP := Lib.hid (below_grown2 (base := w.heap.size + 1) (by have := QB.out.size; have := QG.out; have := HSZ.out; simp; omega) (HO.out.alloc _) HG.out)
    have HBX : Hid (Below (w.heap.size + 1) W w1) := Lib.hid (((Below.refl _ W).alloc (by have := QB.out.size; have := QG.out; have := HSZ.out; omega) _).trans HBP.out)
    have hsz1 := HBX.out.size
    have hB1 := Boxed.set (W := w1) (.slice g2 (pre.length + 1) c2) (row_oth HO.out HG.out (Nat.lt_succ_self _) QS.out)
    refine ⟨(HKP.out.trans (KeepsOthers.setCell _ _ _)).from _, (Kf.of HBX.out (by have := HSZ.out; omega)).trans (Kf.set _ rfl), ⟨_, hB1, ?_⟩, (QB.out.trans (HBX.out.mono (Nat.le_succ _))).setCell (p := ⟨w.heap.size, 0, none⟩) (Nat.le_refl _) _, by have := QG.out; simp [World.setCell]; omega⟩
    rw [flat4_snoc, List.length_append]
    exact HN.out.kept (grownBy_setCell' w1 _ _) (.inr (own_ne4 HN.out (Nat.lt_succ_self _)))
  case done =>
    rintro D zs W hD rfl ⟨⟨v, q1, ho⟩, hB, hge⟩ hK
    have d1 := q1.cell
    gi_wp2
    refine ⟨by simp, .inl ⟨_, _, rfl, run_takeDeferred hK, ?_⟩⟩
    exact ⟨_, results_tmp rfl _ _ _, v, rfl, by rw [← HL.out]; exact ownsRow_putObj ho _ hK rfl, hB.trans (belowK_b (w := w) (Nat.le_refl _) W D _ _ (by have := HBEL.out.size; omega) hK rfl rfl)⟩
  case stop =>
    rintro D c pre W hD _ h _
    exact h.elim
end Pw
end Go.Proofs.Ytobbnbelacncjaa
