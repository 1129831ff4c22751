/-
  For every byte slice and every list of items that hold together at most 1048576 values, WireReads returns true: each read returns what the specification says, leaves the specified error, and End returns what the specification says.
-/
import Derived.Test.YtdfokmhpnniphaaWLives
import Derived.Test.YtdfokmhpnniphaaWRead
import Derived.Test.YtdfokmhpnniphaaWWritten
import Derived.Deep.RegionHeld3
import Derived.Deep.DeepCutAuto
import Derived.Deep.LoopGhost
import Derived.Deep.CutBlock
namespace Go.Proofs.Ytdfokmhpnniphaa.wireReads
open Go.ChangeShapes Go.WideShapes Go.ChangeAt Go.RowKit
open Go.ChangeMaps (open_string shut_string)
set_option linter.unusedVariables false
open W H in
theorem rN_le : ∀ (n : Nat) (s : W.St), H.Byt s.1 → (W.rN s n).1.1.length ≤ s.1.length ∧ H.Byt (W.rN s n).1.1
  | 0, s, h => ⟨Nat.le_refl _, h⟩
  | n + 1, (bs, e), h => by
    have h1 := W.rU_len h e
    have h2 := W.rU_byt h e
    unfold W.rN
    split
    · exact ⟨h1, h2⟩
    · have h3 := rN_le n (W.rI (bs, e)).1 h2
      exact ⟨Nat.le_trans h3.1 h1, h3.2⟩
open W H in
theorem rV_le {bs : List Int} (h : H.Byt bs) (e m : Int) (v : W.Val) : (W.rV (bs, e) m v).1.1.length ≤ bs.length ∧ H.Byt (W.rV (bs, e) m v).1.1 := by
  cases v with
  | u n => exact ⟨W.rU_len h e, W.rU_byt h e⟩
  | i n => exact ⟨W.rU_len h e, W.rU_byt h e⟩
  | b xs =>
    have h1 := W.rS_len h e m
    have h2 := W.rS_byt h e m
    show (W.rB (bs, e) m).1.1.length ≤ bs.length ∧ H.Byt (W.rB (bs, e) m).1.1
    unfold W.rB
    split
    · exact ⟨h1, h2⟩
    · split
      · exact ⟨h1, h2⟩
      · exact ⟨by simp only [List.length_drop]; omega, fun x hx => h2 x (List.mem_of_mem_drop hx)⟩
  | l zs =>
    have h1 := W.rS_len h e m
    have h2 := W.rS_byt h e m
    have h3 := rN_le (W.rS (bs, e) m).2 (W.rS (bs, e) m).1 h2
    show (W.rL (bs, e) m).1.1.length ≤ bs.length ∧ H.Byt (W.rL (bs, e) m).1.1
    unfold W.rL
    split <;> exact ⟨Nat.le_trans h3.1 h1, h3.2⟩

/-- The specification's Reader at block R: what is left lies in the argument's own memory. -/
structure RRef (w wr : World) (R : Nat) (Ar : Option Addr) (nr cr n0 : Nat) (s : W.St) : Prop where
  blk : wr.heap[R]? = some (.cells #[.slice Ar nr cr, .int .i64 s.2] 35 (0, 0))
  len : s.1.length = nr
  le : nr ≤ n0
  cap : nr ≤ cr
  capm : cr ≤ maxLen
  nil : Ar = none → cr = 0
  byt : H.Byt s.1
  rd : H.RdI w w.heap.size .u8 Ar s.1
theorem RRef.keep {w wr w' : World} {R : Nat} {Ar : Option Addr} {nr cr n0 : Nat} {s : W.St} (h : RRef w wr R Ar nr cr n0 s) (hb : w'.heap[R]? = wr.heap[R]?) : RRef w w' R Ar nr cr n0 s :=
  ⟨hb.trans h.blk, h.len, h.le, h.cap, h.capm, h.nil, h.byt, h.rd⟩
theorem rdi_back {w w' : World} {k : IntKind} {A : Option Addr} {zs : List Int} (h : H.RdI w' w.heap.size k A zs) (hb : Below w.heap.size w w') : H.RdI w w.heap.size k A zs := h.keep fun p hp => (hb.cell hp).symm

def zitem : Option Obj := some (.cells #[.int .i64 0, .int .u64 0, .int .i64 0, .slice none 0 0, .slice none 0 0, .int .i64 0] 53 (0, 0))
theorem zcells {w : World} {b : Nat} (h : w.heap[b]? = zitem) :
    w.cell? ⟨b, 0, none⟩ = some (.int .i64 0) ∧ w.cell? ⟨b, 1, none⟩ = some (.int .u64 0) ∧ w.cell? ⟨b, 2, none⟩ = some (.int .i64 0) ∧ w.cell? ⟨b, 3, none⟩ = some (.slice none 0 0) ∧ w.cell? ⟨b, 4, none⟩ = some (.slice none 0 0) ∧ w.cell? ⟨b, 5, none⟩ = some (.int .i64 0) ∧
    w.frozen? ⟨b, 0, none⟩ = false ∧ w.frozen? ⟨b, 1, none⟩ = false ∧ w.frozen? ⟨b, 2, none⟩ = false ∧ w.frozen? ⟨b, 3, none⟩ = false ∧ w.frozen? ⟨b, 4, none⟩ = false ∧ w.frozen? ⟨b, 5, none⟩ = false := by
  obtain ⟨a0, a1, a2, a3, a4, a5⟩ := W.cells6 h
  obtain ⟨b0, b1, b2, b3, b4, b5⟩ := W.frozen6 h
  exact ⟨a0, a1, a2, a3, a4, a5, b0, b1, b2, b3, b4, b5⟩
theorem keep6 {B P : Nat} {w W : World} {v0 v1 v2 v3 v4 v5 : Value} (h : Below B w W) (hP : B ≤ P) : Below B w ((((((W.setCell ⟨P, 0, none⟩ v0).setCell ⟨P, 1, none⟩ v1).setCell ⟨P, 2, none⟩ v2).setCell ⟨P, 3, none⟩ v3).setCell ⟨P, 4, none⟩ v4).setCell ⟨P, 5, none⟩ v5) :=
  (((((h.setCell (p := ⟨P, 0, none⟩) hP _).setCell (p := ⟨P, 1, none⟩) hP _).setCell (p := ⟨P, 2, none⟩) hP _).setCell (p := ⟨P, 3, none⟩) hP _).setCell (p := ⟨P, 4, none⟩) hP _).setCell (p := ⟨P, 5, none⟩) hP _
open W H in
theorem save6 (X : World) (P : Nat) (v0 v1 v2 v3 v4 v5 : Value) : Save (· = P) X ((((((X.setCell ⟨P, 0, none⟩ v0).setCell ⟨P, 1, none⟩ v1).setCell ⟨P, 2, none⟩ v2).setCell ⟨P, 3, none⟩ v3).setCell ⟨P, 4, none⟩ v4).setCell ⟨P, 5, none⟩ v5) :=
  ((((((Save.refl (· = P) X).setCell (p := ⟨P, 0, none⟩) rfl _).setCell (p := ⟨P, 1, none⟩) rfl _).setCell (p := ⟨P, 2, none⟩) rfl _).setCell (p := ⟨P, 3, none⟩) rfl _).setCell (p := ⟨P, 4, none⟩) rfl _).setCell (p := ⟨P, 5, none⟩) rfl _

open W H in
/-- What is known of an item that has been read: of x's kind, with the value v, everything else zero; its slices in memory. -/
structure Sure (wc : World) (x y : W.Itm) (v : W.Val) : Prop where
  ok : y.Ok
  k : y.k = x.k
  v : y.val = v
  u : x.k ≠ 0 → y.u = 0
  i : x.k ≠ 1 → y.i = 0
  b : x.k ≠ 2 → y.bs = []
  l : (x.k = 0 ∨ x.k = 1 ∨ x.k = 2) → y.ls = []
  rb : RdI wc wc.heap.size .u8 y.bA y.bs
  rl : RdI wc wc.heap.size .i64 y.lA y.ls
open W H in
/-- At block P lies the item y that has been read. -/
structure Got (w wc : World) (P : Nat) (x y : W.Itm) (v : W.Val) : Prop where
  blk : wc.heap[P]? = some (.cells #[.int .i64 y.k, .int .u64 y.u, .int .i64 y.i, .slice y.bA y.bn y.bc, .slice y.lA y.ln y.lc, .int .i64 y.m] 53 (0, 0))
  low : w.heap.size ≤ P
  sure : Sure wc x y v

open W H in
theorem got_fin {w wr X : World} {P b n c kb R : Nat} {e : Int} {A : Option Addr} {E : List Int} {x y : W.Itm} {v : W.Val} (hz : X.heap[P]? = zitem) (hB : Below w.heap.size w X) (hPr : wr.heap.size ≤ P) (hwr : w.heap.size ≤ wr.heap.size) (hb : b < wr.heap.size) (hA : ∀ a, A = some a → a.block < wr.heap.size)
    (hY : Sure X x y v) (h1 : ∀ a, y.bA = some a → 0 < y.bs.length → a.block ≠ P) (h2 : ∀ a, y.lA = some a → 0 < y.ls.length → a.block ≠ P) (hR : W.RAt X b A n c E kb e) (hRb : R < wr.heap.size) :
    Got w ((((((X.setCell ⟨P, 0, none⟩ (.int .i64 y.k)).setCell ⟨P, 1, none⟩ (.int .u64 y.u)).setCell ⟨P, 2, none⟩ (.int .i64 y.i)).setCell ⟨P, 3, none⟩ (.slice y.bA y.bn y.bc)).setCell ⟨P, 4, none⟩ (.slice y.lA y.ln y.lc)).setCell ⟨P, 5, none⟩ (.int .i64 y.m)) P x y v ∧
    W.RAt ((((((X.setCell ⟨P, 0, none⟩ (.int .i64 y.k)).setCell ⟨P, 1, none⟩ (.int .u64 y.u)).setCell ⟨P, 2, none⟩ (.int .i64 y.i)).setCell ⟨P, 3, none⟩ (.slice y.bA y.bn y.bc)).setCell ⟨P, 4, none⟩ (.slice y.lA y.ln y.lc)).setCell ⟨P, 5, none⟩ (.int .i64 y.m)) b A n c E kb e ∧
    Below w.heap.size w ((((((X.setCell ⟨P, 0, none⟩ (.int .i64 y.k)).setCell ⟨P, 1, none⟩ (.int .u64 y.u)).setCell ⟨P, 2, none⟩ (.int .i64 y.i)).setCell ⟨P, 3, none⟩ (.slice y.bA y.bn y.bc)).setCell ⟨P, 4, none⟩ (.slice y.lA y.ln y.lc)).setCell ⟨P, 5, none⟩ (.int .i64 y.m)) ∧
    ((((((X.setCell ⟨P, 0, none⟩ (.int .i64 y.k)).setCell ⟨P, 1, none⟩ (.int .u64 y.u)).setCell ⟨P, 2, none⟩ (.int .i64 y.i)).setCell ⟨P, 3, none⟩ (.slice y.bA y.bn y.bc)).setCell ⟨P, 4, none⟩ (.slice y.lA y.ln y.lc)).setCell ⟨P, 5, none⟩ (.int .i64 y.m)).heap[R]? = X.heap[R]? := by
  have hs := save6 X P (.int .i64 y.k) (.int .u64 y.u) (.int .i64 y.i) (.slice y.bA y.bn y.bc) (.slice y.lA y.ln y.lc) (.int .i64 y.m)
  have hPX : P < X.heap.size := W.blk_lt hz
  refine ⟨⟨?_, by omega, hY.ok, hY.k, hY.v, hY.u, hY.i, hY.b, hY.l, (hs.rdi2 hY.rb (Nat.le_refl _) h1).more hs.size, (hs.rdi2 hY.rl (Nat.le_refl _) h2).more hs.size⟩, hR.apart hs (by omega) (fun a ha => by have := hA a ha; omega), keep6 hB (by omega), hs.block R (by omega) (by omega)⟩
  exact W.blk_set (W.blk_set (W.blk_set (W.blk_set (W.blk_set (W.blk_set hz 0 (.int .i64 y.k)) 1 (.int .u64 y.u)) 2 (.int .i64 y.i)) 3 (.slice y.bA y.bn y.bc)) 4 (.slice y.lA y.ln y.lc)) 5 (.int .i64 y.m)
open W H in
theorem fin3 {W0 w2 : World} {R Q j : Nat} {v0 v1 x0 x1 u : Value} {cs : Array Value} (hB : Below W0.heap.size W0 w2) (hR : W0.heap[R]? = some (.cells #[x0, x1] 35 (0, 0))) (hQ : W0.heap[Q]? = some (.cells cs 53 (0, 0))) (hRQ : R ≠ Q) :
    (((w2.setCell ⟨R, 0, none⟩ v0).setCell ⟨R, 1, none⟩ v1).setCell ⟨Q, j, none⟩ u).heap[R]? = some (.cells #[v0, v1] 35 (0, 0)) ∧
    (((w2.setCell ⟨R, 0, none⟩ v0).setCell ⟨R, 1, none⟩ v1).setCell ⟨Q, j, none⟩ u).heap[Q]? = some (.cells (cs.setIfInBounds j u) 53 (0, 0)) ∧
    Save (fun k => k = R ∨ k = Q) W0 (((w2.setCell ⟨R, 0, none⟩ v0).setCell ⟨R, 1, none⟩ v1).setCell ⟨Q, j, none⟩ u) ∧
    Save (fun k => k = R ∨ k = Q) w2 (((w2.setCell ⟨R, 0, none⟩ v0).setCell ⟨R, 1, none⟩ v1).setCell ⟨Q, j, none⟩ u) := by
  have hR2 := (hB.block R (W.blk_lt hR)).trans hR
  have hQ2 := (hB.block Q (W.blk_lt hQ)).trans hQ
  have hR3 := W.blk_set (W.blk_set hR2 0 v0) 1 v1
  have sR : Save (· = R) w2 ((w2.setCell ⟨R, 0, none⟩ v0).setCell ⟨R, 1, none⟩ v1) := ((Save.refl (· = R) w2).setCell (p := ⟨R, 0, none⟩) rfl _).setCell (p := ⟨R, 1, none⟩) rfl _
  have hQ3 := (sR.block Q (W.blk_lt hQ2) (fun h => hRQ h.symm)).trans hQ2
  have sQ : Save (· = Q) ((w2.setCell ⟨R, 0, none⟩ v0).setCell ⟨R, 1, none⟩ v1) (((w2.setCell ⟨R, 0, none⟩ v0).setCell ⟨R, 1, none⟩ v1).setCell ⟨Q, j, none⟩ u) := (Save.refl (· = Q) _).setCell (p := ⟨Q, j, none⟩) rfl _
  exact ⟨(sQ.block R (W.blk_lt hR3) hRQ).trans hR3, W.blk_set hQ3 j u, ((Save.of_below (fun k => k = R ∨ k = Q) hB).trans (sR.more fun k h => .inl h)).trans (sQ.more fun k h => .inr h), (sR.more fun k h => .inl h).trans (sQ.more fun k h => .inr h)⟩

open W H in
theorem sure_u {wc : World} {x y : W.Itm} {s : W.St} {m : Int} (h : Sure wc x y (W.rV s m x.val).2) (hk : x.k = 0) : y.u = (W.rU s).2 ∧ y.i = 0 ∧ y.bs = [] ∧ y.ls = [] := by
  have hv := h.v
  have hx : x.val = .u x.u := by unfold W.Itm.val; rw [if_pos hk]
  have hy : y.val = .u y.u := by unfold W.Itm.val; rw [if_pos (by rw [h.k, hk])]
  rw [hx, hy] at hv
  exact ⟨by injection hv, h.i (by omega), h.b (by omega), h.l (.inl hk)⟩
open W H in
theorem sure_i {wc : World} {x y : W.Itm} {s : W.St} {m : Int} (h : Sure wc x y (W.rV s m x.val).2) (hk : x.k = 1) : y.u = 0 ∧ y.i = (W.rI s).2 ∧ y.bs = [] ∧ y.ls = [] := by
  have hv := h.v
  have e := h.k
  have hx : x.val = .i x.i := by unfold W.Itm.val; rw [if_neg (by omega), if_pos hk]
  have hy : y.val = .i y.i := by unfold W.Itm.val; rw [if_neg (by omega), if_pos (by omega)]
  rw [hx, hy] at hv
  exact ⟨h.u (by omega), by injection hv, h.b (by omega), h.l (.inr (.inl hk))⟩
open W H in
theorem sure_b {wc : World} {x y : W.Itm} {s : W.St} {m : Int} (h : Sure wc x y (W.rV s m x.val).2) (hk : x.k = 2) : y.u = 0 ∧ y.i = 0 ∧ y.bs = (W.rB s m).2 ∧ y.ls = [] := by
  have hv := h.v
  have e := h.k
  have hx : x.val = .b x.bs := by unfold W.Itm.val; rw [if_neg (by omega), if_neg (by omega), if_pos hk]
  have hy : y.val = .b y.bs := by unfold W.Itm.val; rw [if_neg (by omega), if_neg (by omega), if_pos (by omega)]
  rw [hx, hy] at hv
  exact ⟨h.u (by omega), h.i (by omega), by injection hv, h.l (.inr (.inr hk))⟩
open W H in
theorem sure_l {wc : World} {x y : W.Itm} {s : W.St} {m : Int} (h : Sure wc x y (W.rV s m x.val).2) (h0 : ¬ x.k = 0) (h1 : ¬ x.k = 1) (h2 : ¬ x.k = 2) : y.u = 0 ∧ y.i = 0 ∧ y.bs = [] ∧ y.ls = (W.rL s m).2 := by
  have hv := h.v
  have e := h.k
  have hx : x.val = .l x.ls := by unfold W.Itm.val; rw [if_neg h0, if_neg h1, if_neg h2]
  have hy : y.val = .l y.ls := by unfold W.Itm.val; rw [if_neg (by omega), if_neg (by omega), if_neg (by omega)]
  rw [hx, hy] at hv
  exact ⟨h.u (by omega), h.i (by omega), h.b (by omega), by injection hv⟩
open W H in
theorem ref_fin {w W0 w2 X : World} {R n0 n' c' : Nat} {A' : Option Addr} {s : W.St} {bs : List Int} {e m : Int} {v : W.Val} (hv : s = (W.rV (bs, e) m v).1) (hb : H.Byt bs) (hn : bs.length ≤ n0) (hw : Below w.heap.size w W0) (hX : X.heap[R]? = some (.cells #[.slice A' n' c', .int .i64 s.2] 35 (0, 0)))
    (hP : s.1.length = n' ∧ n' ≤ c' ∧ c' ≤ maxLen ∧ (A' = none → c' = 0) ∧ H.RdI w2 w.heap.size .u8 A' s.1) (h2 : Below W0.heap.size W0 w2) : RRef w X R A' n' c' n0 (W.rV (bs, e) m v).1 := by
  have hl := rV_le hb e m v
  rw [← hv] at hl ⊢
  exact ⟨hX, hP.1, by omega, hP.2.1, hP.2.2.1, hP.2.2.2.1, hl.2, rdi_back hP.2.2.2.2 (hw.trans (h2.mono hw.size))⟩

set_option maxRecDepth 100000 in
set_option maxHeartbeats 1000000 in
theorem walk (a0 : Option Addr) (n0 c0 : Nat) (z0 : List Int) (a1 : Option Addr) (n1 c1 : Nat) (z1 : List W.Itm) (w : World) (l0 : z0.length = n0) (cp0 : n0 ≤ c0 ∧ c0 ≤ maxLen) (nz0 : a0 = none → c0 = 0) (rd0 : H.RdI w w.heap.size .u8 a0 z0) (wf0 : ∀ n ∈ z0, (Lit.int .u8 n).wf = true) (bk0 : z0.length ≤ 1048575) (l1 : z1.length = n1) (cp1 : n1 ≤ c1 ∧ c1 ≤ maxLen) (nz1 : a1 = none → c1 = 0) (rd1 : W.RdIt w w.heap.size a1 z1) (wf1 : ∀ x ∈ z1, x.Ok) (bk1 : (z1.map Go.Proofs.Ytdfokmhpnniphaa.W.Itm.w).sum ≤ 1048576) :
    Calls Try.prog 6 #[.slice a0 n0 c0, .slice a1 n1 c1] w fun e w' => e = .returned (.bool true) ∧ Below w.heap.size w w' := by
  have hn : n0 ≤ 1048575 := by omega
  have hb8 := H.u8_byt wf0
  have hnew := W.new_any a0 n0 c0 z0 w l0 (by omega) nz0 hb8 rd0
  have HR0 := Lib.hid rd0
  have HL0 := Lib.hid l0
  have HC0 := Lib.hid cp0
  have HN0 := Lib.hid nz0
  have HB8 := Lib.hid hb8
  have HR := Lib.hid rd1
  have HL := Lib.hid l1
  have HK := Lib.hid wf1
  have hcm : c1 ≤ 9223372036854775807 := cp1.2
  have hcn := cp1.1
  clear rd0 l0 wf0 bk0 cp0 nz0 hb8 rd1 l1 wf1 nz1 bk1 cp1
  go_enter Try.func6, Try.ntmps6
  go_wp2_with fail
  refine hnew.mono ?_
  clear hnew
  rintro r w1 ⟨b, A, c, rfl, hr1, hb1, hA1, hB1⟩
  have HR1 := Lib.hid hr1
  have HB1 := Lib.hid hB1
  clear hr1 hB1 hA1
  go_wp2_with fail
  have hrs : RRef w (w1.alloc (.cells #[.slice a0 n0 c0, .int .i64 0] 35)) w1.heap.size a0 n0 c0 n0 (z0, 0) :=
    ⟨heap_alloc_new w1 _, HL0.out, Nat.le_refl _, HC0.out.1, HC0.out.2, HN0.out, HB8.out, HR0.out⟩
  have HRS := Lib.hid hrs
  clear hrs
  go_loopg [7] n1 (fun g i wr => ∃ (k kb : Nat) (e : Int) (Ar : Option Addr) (nr cr : Nat) (s : W.St), k + g = n1 ∧ i = .int .i64 k ∧ W.RAt wr b A n0 c z0 kb e ∧ W.StOf z0 kb e s ∧ RRef w wr w1.heap.size Ar nr cr n0 s ∧ Below w.heap.size w wr)
  case atStart => exact ⟨0, 0, 0, a0, n0, c0, (z0, 0), Nat.zero_add _, rfl, HR1.out.same ((Below.refl _ _).alloc (Nat.le_refl _) _), ⟨rfl, fun _ => rfl⟩, HRS.out, HB1.out.alloc HB1.out.size _⟩
  case round =>
    obtain ⟨k, kb, e, Ar, nr, cr, s, hg, rfl, hr, hst, hrr, hB⟩ := hrel
    have HRr := Lib.hid hr
    have HST := Lib.hid hst
    have HRR := Lib.hid hrr
    have HBr := Lib.hid hB
    have HG := Lib.hid hg
    have hk : k ≤ n1 := by omega
    clear hr hst hrr hB hg
    by_cases hlt : k < n1
    · obtain ⟨x, hx⟩ : ∃ x, z1[k]? = some x := ⟨_, List.getElem?_eq_getElem (by rw [HL.out]; exact hlt)⟩
      obtain ⟨ad, rfl, ha, hri⟩ := (HR.out.below HBr.out) k x hx
      have hok := HK.out x (List.mem_of_getElem? hx)
      have hbr := W.blk_lt HRr.out.blk
      have hRl : w1.heap.size < wr.heap.size := W.blk_lt HRR.out.blk
      have hbR : b < w1.heap.size := W.blk_lt HR1.out.blk
      have hcells : ∀ w' : World, Below w.heap.size w w' → wr.heap.size ≤ w'.heap.size → w'.cell? (ad.add (k * 6)) = some (.int .i64 x.k) ∧ w'.cell? ⟨(ad.add (k * 6)).block, (ad.add (k * 6)).off + 1, none⟩ = some (.int .u64 x.u) ∧ w'.cell? ⟨(ad.add (k * 6)).block, (ad.add (k * 6)).off + 2, none⟩ = some (.int .i64 x.i) ∧ w'.cell? ⟨(ad.add (k * 6)).block, (ad.add (k * 6)).off + 3, none⟩ = some (.slice x.bA x.bn x.bc) ∧ w'.cell? ⟨(ad.add (k * 6)).block, (ad.add (k * 6)).off + 4, none⟩ = some (.slice x.lA x.ln x.lc) ∧ w'.cell? ⟨(ad.add (k * 6)).block, (ad.add (k * 6)).off + 5, none⟩ = some (.int .i64 x.m) ∧ Below w.heap.size w w' ∧ wr.heap.size ≤ w'.heap.size := fun w' hb hz => by
        obtain ⟨ad', e, _, hri⟩ := (HR.out.below hb) k x hx
        cases e
        obtain ⟨hc0, hc1, hc2, hc3, hc4, hc5, _, _⟩ := hri
        rw [W.add_pos _ _ (by decide)] at hc1 hc2 hc3 hc4 hc5
        exact ⟨hc0, hc1, hc2, hc3, hc4, hc5, hb, hz⟩
      have hread : ∀ W1 : World, W.RAt W1 b A n0 c z0 kb e → Below w.heap.size w W1 → wr.heap.size ≤ W1.heap.size → Calls Try.prog 30 #[.pointer (some ⟨b, 0, none⟩), x.agg, .int .i64 x.m] W1 fun r w' => ∃ y : W.Itm, r = .returned y.agg ∧ Sure w' x y (W.rV s x.m x.val).2 ∧ (∃ kb' e', W.RAt w' b A n0 c z0 kb' e' ∧ W.StOf z0 kb' e' (W.rV s x.m x.val).1) ∧ W.Save (· = b) W1 w' ∧ (∀ a, y.bA = some a → W1.heap.size ≤ a.block) ∧ (∀ a, y.lA = some a → W1.heap.size ≤ a.block) ∧ w'.cell? (ad.add (k * 6)) = some (.int .i64 x.k) ∧ w'.cell? ⟨(ad.add (k * 6)).block, (ad.add (k * 6)).off + 1, none⟩ = some (.int .u64 x.u) ∧ w'.cell? ⟨(ad.add (k * 6)).block, (ad.add (k * 6)).off + 2, none⟩ = some (.int .i64 x.i) ∧ w'.cell? ⟨(ad.add (k * 6)).block, (ad.add (k * 6)).off + 3, none⟩ = some (.slice x.bA x.bn x.bc) ∧ w'.cell? ⟨(ad.add (k * 6)).block, (ad.add (k * 6)).off + 4, none⟩ = some (.slice x.lA x.ln x.lc) ∧ w'.cell? ⟨(ad.add (k * 6)).block, (ad.add (k * 6)).off + 5, none⟩ = some (.int .i64 x.m) ∧ Below w.heap.size w w' ∧ wr.heap.size ≤ w'.heap.size := fun W1 h1 hb hz =>
        (W.read_any (s := s) x x.m hok.m hok (fun _ => by have := HRR.out.len; have := HRR.out.le; omega) h1 HST.out).mono fun r w' h => by
          obtain ⟨y, hr, yok, yk, yv, ym, yu, yi, yb0, yl0, yb, yl, yab, yal, kb', e', yR, yS, yV⟩ := h
          exact ⟨y, hr, ⟨yok, yk, yv, yu, yi, fun h => (yb0 h).1, fun h => (yl0 h).1, yb, yl⟩, ⟨kb', e', yR, yS⟩, yV, fun a ha => (yab a ha).1, fun a ha => (yal a ha).1, hcells w' (hb.trans (yV.below hb.size (fun k hk => by omega))) (Nat.le_trans hz yV.size)⟩
      have hrd : W.RAt wr.drew b A n0 c z0 kb e := HRr.out.same (Below.refl _ _).drew
      obtain ⟨kk0, kk1, kk2, kk3, kk4, kk5, kk6, kk7⟩ := hcells wr.drew HBr.out.drew (Nat.le_refl _)
      obtain ⟨hc0, hc1, hc2, hc3, hc4, hc5, _⟩ := hcells wr HBr.out (Nat.le_refl _)
      have hk0 : (0 : Int) ≤ (k : Int) := by omega
      have hk1 : (k : Int) < (n1 : Int) := by omega
      have hbd : ∀ w' : World, Below w.heap.size w w' → w.heap.size ≤ w'.heap.size := fun w' h => h.size
      have hnb : ¬ wr.heap.size = b := by omega
      have hbb := HBr.out
      unfold W.Itm.agg at hread
      have HRD := Lib.hid hread
      have HRd := Lib.hid hrd
      have HX := Lib.hid hx
      have HCE := Lib.hid hcells
      have HBD := Lib.hid hbd
      have HOK := Lib.hid hok
      clear hread hx hcells hri hrd hbd hok
      go_upto_region 8 with fail
      go_cut [8] (fun s8 wc => ∃ (P : Nat) (y : W.Itm), s8 = .pointer (some ⟨P, 0, none⟩) ∧ Got w wc P x y (W.rV s x.m x.val).2 ∧ (∃ kb' e', W.RAt wc b A n0 c z0 kb' e' ∧ W.StOf z0 kb' e' (W.rV s x.m x.val).1) ∧ RRef w wc w1.heap.size Ar nr cr n0 s ∧ w1.heap.size < P ∧ (∀ a, y.bA = some a → w1.heap.size < a.block) ∧ (∀ a, y.lA = some a → w1.heap.size < a.block) ∧ Below w.heap.size w wc)
      case first =>
        go_region_held3 (fun w' => w'.cell? (ad.add (k * 6)) = some (.int .i64 x.k) ∧ w'.cell? ⟨(ad.add (k * 6)).block, (ad.add (k * 6)).off + 1, none⟩ = some (.int .u64 x.u) ∧ w'.cell? ⟨(ad.add (k * 6)).block, (ad.add (k * 6)).off + 2, none⟩ = some (.int .i64 x.i) ∧ w'.cell? ⟨(ad.add (k * 6)).block, (ad.add (k * 6)).off + 3, none⟩ = some (.slice x.bA x.bn x.bc) ∧ w'.cell? ⟨(ad.add (k * 6)).block, (ad.add (k * 6)).off + 4, none⟩ = some (.slice x.lA x.ln x.lc) ∧ w'.cell? ⟨(ad.add (k * 6)).block, (ad.add (k * 6)).off + 5, none⟩ = some (.int .i64 x.m) ∧ Below w.heap.size w w' ∧ wr.heap.size ≤ w'.heap.size) (first | (with_reducible exact ⟨kk0, kk1, kk2, kk3, kk4, kk5, kk6, kk7⟩) | (with_reducible exact ⟨by assumption, by assumption, by assumption, by assumption, by assumption, by assumption, by assumption, by assumption⟩) | (refine HCE.out _ ?_ ?_; (first | ((with_reducible refine Below.alloc ?_ ?_ _); (with_reducible assumption); (refine HBD.out _ ?_; with_reducible assumption)) | ((with_reducible refine Below.drew ?_); (with_reducible refine Below.alloc ?_ ?_ _); (with_reducible assumption); (refine HBD.out _ ?_; with_reducible assumption)) | ((with_reducible refine keep6 ?_ ?_); (first | (with_reducible assumption) | ((with_reducible refine Below.alloc ?_ ?_ _); (with_reducible assumption); (refine HBD.out _ ?_; with_reducible assumption)) | ((with_reducible refine Below.drew ?_); (with_reducible refine Below.alloc ?_ ?_ _); (with_reducible assumption); (refine HBD.out _ ?_; with_reducible assumption))); (refine HBD.out _ ?_; with_reducible assumption))); (simp <;> omega)))
          (first | (go_at_call 30; refine (HRD.out _ ?_ ?_ ?_).mono ?_; (first | (with_reducible exact HRd.out) | (with_reducible exact ((HRr.out.same ((Below.refl _ _).alloc (Nat.le_refl _) _)).same (Below.refl _ _).drew))); (first | (with_reducible assumption) | ((with_reducible refine Below.alloc ?_ ?_ _); (with_reducible assumption); (refine HBD.out _ ?_; with_reducible assumption)) | ((with_reducible refine Below.drew ?_); (with_reducible refine Below.alloc ?_ ?_ _); (with_reducible assumption); (refine HBD.out _ ?_; with_reducible assumption))); (first | (with_reducible assumption) | (simp <;> omega)); rintro e w6 ⟨y, rfl, hY, hR6, hV6, ya, yl, d0, d1, d2, d3, d4, d5, hb6, hz6⟩; have HY := Lib.hid hY; have HR6 := Lib.hid hR6; have HV6 := Lib.hid hV6; (first | (have hz6 : w6.heap[wr.heap.size]? = zitem := (hV6.block wr.heap.size (by simp) hnb).trans (heap_alloc_new _ _); have HP6 := Lib.hid hz6; obtain ⟨P0, P1, P2, P3, P4, P5, Q0, Q1, Q2, Q3, Q4, Q5⟩ := zcells hz6; clear hz6) | skip); have HYA := Lib.hid ya; have HYL := Lib.hid yl; clear hY hR6 hV6 ya yl) | fail)
        all_goals
          clear kk0 kk1 kk2 kk3 kk4 kk5 kk6 kk7 hc0 hc1 hc2 hc3 hc4 hc5
          go_wp2_with fail
          go_meet
          obtain ⟨kb6, e6, h6, h6d⟩ := HR6.out
          have hY := HY.out
          have hinb := HRr.out.inb
          first
          | (have g := got_fin (w := w) (wr := wr) (P := wr.heap.size) (x := x) (R := w1.heap.size) HP6.out (HBD.out _ hb6 |> fun _ => hb6) (Nat.le_refl _) (HBD.out _ hbb) hbr hinb hY (fun a ha _ e => by have := HYA.out a ha; simp at this; omega) (fun a ha _ e => by have := HYL.out a ha; simp at this; omega) h6 hRl
             exact ⟨wr.heap.size, y, rfl, g.1, ⟨kb6, e6, g.2.1, h6d⟩, HRR.out.keep (g.2.2.2.trans ((HV6.out.block w1.heap.size (by simp; omega) (by omega)).trans (Below.heap_alloc _ _ _ hRl))), hRl, fun a ha => by have := HYA.out a ha; simp at this; omega, fun a ha => by have := HYL.out a ha; simp at this; omega, g.2.2.1⟩)
          | (have hal := (Below.refl w6.heap.size w6).alloc (Nat.le_refl _) (.cells #[.int .i64 y.k, .int .u64 y.u, .int .i64 y.i, .slice y.bA y.bn y.bc, .slice y.lA y.ln y.lc, .int .i64 y.m] 53)
             exact ⟨w6.heap.size, y, rfl, ⟨heap_alloc_new w6 _, HBD.out _ hb6, hY.ok, hY.k, hY.v, hY.u, hY.i, hY.b, hY.l, (hY.rb.below hal).more hal.size, (hY.rl.below hal).more hal.size⟩, ⟨kb6, e6, h6.same hal, h6d⟩, HRR.out.keep ((hal.block w1.heap.size (by omega)).trans (HV6.out.block w1.heap.size hRl (by omega))), by omega, fun a ha => by have := HYA.out a ha; simp at this; omega, fun a ha => by have := HYL.out a ha; simp at this; omega, hb6.trans (hal.mono (HBD.out _ hb6))⟩)
      case rest =>
        obtain ⟨wd, hwd⟩ : ∃ W1, W1 = wc := ⟨_, rfl⟩
        subst hwd
        obtain ⟨P, y, rfl, hgot, ⟨kb', e', hRc, hSc⟩, hRRc, hPR, hya, hyl, hBc⟩ := hcut
        have HSc := Lib.hid hSc
        have HGot := Lib.hid hgot
        have HRc := Lib.hid hRc
        have HRRc := Lib.hid hRRc
        have HYA := Lib.hid hya
        have HYL := Lib.hid hyl
        have hPl : P < wd.heap.size := W.blk_lt hgot.blk
        have hRlc : w1.heap.size < wd.heap.size := W.blk_lt hRRc.blk
        have hwrc : w.heap.size ≤ wd.heap.size := hBc.size
        have HBc := Lib.hid hBc
        clear hgot hRc hSc hRRc hBc hya hyl kk0 kk1 kk2 kk3 kk4 kk5 kk6 kk7 hc0 hc1 hc2 hc3 hc4 hc5 hbb hnb hbr hRl HRD HCE
        go_upto_region 10 with fail
        obtain ⟨W0, hW0⟩ : ∃ W0, W0 = wd.alloc (.cells #[.int .i64 0, .int .u64 0, .int .i64 0, .slice none 0 0, .slice none 0 0, .int .i64 0] 53) := ⟨_, rfl⟩
        rw [← hW0]
        have hz0 : W0.heap[wd.heap.size]? = zitem := by rw [hW0]; exact heap_alloc_new wd _
        have hal : Below wd.heap.size wd W0 := by rw [hW0]; exact (Below.refl _ _).alloc (Nat.le_refl _) _
        have hBW : Below w.heap.size w W0 := HBc.out.trans (hal.mono hwrc)
        have hrr0 : RRef w W0 w1.heap.size Ar nr cr n0 s := HRRc.out.keep (hal.block _ hRlc)
        have hQl : wd.heap.size < W0.heap.size := W.blk_lt hz0
        obtain ⟨ad', e9, _, hri⟩ := (HR.out.below hBW) k x HX.out
        cases e9
        obtain ⟨i0, i1, i2, i3, i4, i5, _, _⟩ := hri
        rw [W.add_pos _ _ (by decide)] at i5
        have r0 : W0.cell? ⟨w1.heap.size, 0, none⟩ = some (.slice Ar nr cr) := by rw [W.blk_cell hrr0.blk]; rfl
        have r1 : W0.cell? ⟨w1.heap.size, 1, none⟩ = some (.int .i64 s.2) := by rw [W.blk_cell hrr0.blk]; rfl
        have HZ0 := Lib.hid hz0
        have HAL := Lib.hid hal
        have HBW := Lib.hid hBW
        have HRR0 := Lib.hid hrr0
        clear hW0 hz0 hal hBW hrr0 i1 i2 i3 i4
        go_upto_block 2 with fail
        go_cut [] (fun wx => ∃ (q : W.Itm) (Ar' : Option Addr) (nr' cr' : Nat), wx.heap[wd.heap.size]? = some (.cells #[.int .i64 q.k, .int .u64 q.u, .int .i64 q.i, .slice q.bA q.bn q.bc, .slice q.lA q.ln q.lc, .int .i64 q.m] 53 (0, 0)) ∧ (y.u = q.u ∧ y.i = q.i ∧ y.bs = q.bs ∧ y.ls = q.ls) ∧ W.Lies wx q ∧ RRef w wx w1.heap.size Ar' nr' cr' n0 (W.rV s x.m x.val).1 ∧ W.Save (fun j => j = w1.heap.size ∨ j = wd.heap.size) W0 wx)
        case first =>
          by_cases h0 : x.k = 0
          · have g0 : (x.k == 0) = true := by simpa using h0
            have hv : x.val = .u x.u := by unfold W.Itm.val; exact if_pos h0
            have hcall := W.rduint_any w.heap.size Ar nr cr s.1 s.2 W0 HBW.out.size HRR0.out.byt HRR0.out.len (by have := HRR0.out.le; omega) HRR0.out.cap HRR0.out.capm HRR0.out.nil (HRR0.out.rd.below HBW.out)
            unfold W.rdr at hcall
            have KEY := Lib.hid (sure_u HGot.out.sure h0)
            have HV := Lib.hid hv
            clear h0 hv
            go_wp2_with fail
            refine hcall.mono ?_
            clear hcall
            rintro r w2 ⟨A2, n2, c2, rfl, hp1, hp2, hp3, hp4, hp5, hb2⟩
            have hR2 := (hb2.block _ (W.blk_lt HRR0.out.blk)).trans HRR0.out.blk
            have hQ2 := (hb2.block _ hQl).trans HZ0.out
            have fin := fun v0 v1 u => fin3 (v0 := v0) (v1 := v1) (u := u) (j := 1) hb2 HRR0.out.blk HZ0.out (by omega)
            obtain ⟨f0, f1⟩ := And.intro (W.blk_frozen hR2 0) (W.blk_frozen hR2 1)
            have d0 : w2.cell? ⟨w1.heap.size, 0, none⟩ = some (.slice Ar nr cr) := by rw [W.blk_cell hR2]; rfl
            have d1 : w2.cell? ⟨w1.heap.size, 1, none⟩ = some (.int .i64 s.2) := by rw [W.blk_cell hR2]; rfl
            obtain ⟨_, dQ1, dQ2, dQ3, dQ4, _, _, fQ1, fQ2, fQ3, fQ4, _⟩ := zcells hQ2
            have hne : ¬ w1.heap.size = wd.heap.size := by omega
            have hne' : ¬ wd.heap.size = w1.heap.size := by omega
            have HP := Lib.hid (And.intro hp1 (And.intro hp2 (And.intro hp3 (And.intro hp4 hp5))))
            have HB2 := Lib.hid hb2
            have FIN := Lib.hid fin
            clear hp1 hp2 hp3 hp4 hp5 hb2 fin hR2 hQ2 r0 r1 i0 i5
            unfold W.rdr
            go_wp2_with fail
            go_meet
            obtain ⟨b1, b2, b3, _⟩ := FIN.out (.slice A2 n2 c2) (.int .i64 (W.rU (s.fst, s.snd)).1.2) (.int .u64 (W.rU (s.fst, s.snd)).2)
            exact ⟨⟨0, (W.rU (s.fst, s.snd)).2, 0, none, 0, 0, [], none, 0, 0, [], 0⟩, A2, n2, c2, b2, KEY.out, ⟨rfl, rfl, Nat.zero_le _, Nat.zero_le _, H.RdI.nil, H.RdI.nil⟩, ref_fin (bs := s.1) (e := s.2) (m := x.m) (v := x.val) (by rw [HV.out]; rfl) HRR0.out.byt (by have := HRR0.out.len; have := HRR0.out.le; omega) HBW.out b1 HP.out HB2.out, b3⟩
          · have g0 : (x.k == 0) = false := by simpa using h0
            by_cases h1 : x.k = 1
            · have g1 : (x.k == 1) = true := by simpa using h1
              have hv : x.val = .i x.i := by unfold W.Itm.val; rw [if_neg h0, if_pos h1]
              have hcall := W.rdint_any w.heap.size Ar nr cr s.1 s.2 W0 HBW.out.size HRR0.out.byt HRR0.out.len (by have := HRR0.out.le; omega) HRR0.out.cap HRR0.out.capm HRR0.out.nil (HRR0.out.rd.below HBW.out)
              unfold W.rdr at hcall
              have KEY := Lib.hid (sure_i HGot.out.sure h1)
              have HV := Lib.hid hv
              clear h0 h1 hv
              go_wp2_with fail
              refine hcall.mono ?_
              clear hcall
              rintro r w2 ⟨A2, n2, c2, rfl, hp1, hp2, hp3, hp4, hp5, hb2⟩
              have hR2 := (hb2.block _ (W.blk_lt HRR0.out.blk)).trans HRR0.out.blk
              have hQ2 := (hb2.block _ hQl).trans HZ0.out
              have fin := fun v0 v1 u => fin3 (v0 := v0) (v1 := v1) (u := u) (j := 2) hb2 HRR0.out.blk HZ0.out (by omega)
              obtain ⟨f0, f1⟩ := And.intro (W.blk_frozen hR2 0) (W.blk_frozen hR2 1)
              have d0 : w2.cell? ⟨w1.heap.size, 0, none⟩ = some (.slice Ar nr cr) := by rw [W.blk_cell hR2]; rfl
              have d1 : w2.cell? ⟨w1.heap.size, 1, none⟩ = some (.int .i64 s.2) := by rw [W.blk_cell hR2]; rfl
              obtain ⟨_, dQ1, dQ2, dQ3, dQ4, _, _, fQ1, fQ2, fQ3, fQ4, _⟩ := zcells hQ2
              have hne : ¬ w1.heap.size = wd.heap.size := by omega
              have hne' : ¬ wd.heap.size = w1.heap.size := by omega
              have HP := Lib.hid (And.intro hp1 (And.intro hp2 (And.intro hp3 (And.intro hp4 hp5))))
              have HB2 := Lib.hid hb2
              have FIN := Lib.hid fin
              clear hp1 hp2 hp3 hp4 hp5 hb2 fin hR2 hQ2 r0 r1 i0 i5
              unfold W.rdr
              go_wp2_with fail
              go_meet
              obtain ⟨b1, b2, b3, _⟩ := FIN.out (.slice A2 n2 c2) (.int .i64 (W.rI (s.fst, s.snd)).1.2) (.int .i64 (W.rI (s.fst, s.snd)).2)
              exact ⟨⟨0, 0, (W.rI (s.fst, s.snd)).2, none, 0, 0, [], none, 0, 0, [], 0⟩, A2, n2, c2, b2, KEY.out, ⟨rfl, rfl, Nat.zero_le _, Nat.zero_le _, H.RdI.nil, H.RdI.nil⟩, ref_fin (bs := s.1) (e := s.2) (m := x.m) (v := x.val) (by rw [HV.out]; rfl) HRR0.out.byt (by have := HRR0.out.len; have := HRR0.out.le; omega) HBW.out b1 HP.out HB2.out, b3⟩
            · have g1 : (x.k == 1) = false := by simpa using h1
              by_cases h2 : x.k = 2
              · have g2 : (x.k == 2) = true := by simpa using h2
                have hv : x.val = .b x.bs := by unfold W.Itm.val; rw [if_neg h0, if_neg h1, if_pos h2]
                have hcall := W.rdbytes_any w.heap.size Ar nr cr s.1 s.2 x.m W0.drew HOK.out.m HBW.out.drew.size HRR0.out.byt HRR0.out.len (by have := HRR0.out.le; omega) HRR0.out.cap HRR0.out.capm HRR0.out.nil (HRR0.out.rd.below HBW.out.drew)
                unfold W.rdr at hcall
                have KEY := Lib.hid (sure_b HGot.out.sure h2)
                have HV := Lib.hid hv
                have HCALL := Lib.hid hcall
                have hne : ¬ w1.heap.size = wd.heap.size := by omega
                have hne' : ¬ wd.heap.size = w1.heap.size := by omega
                clear h0 h1 h2 hv hcall i0
                go_wp2_with fail
                go_region_with (go_at_call 27; refine HCALL.out.mono ?_; rintro r w2 ⟨A2, n2, c2, Av, cv, rfl, hp1, hp2, hp3, hp4, hp5, hp6, hb2, hp7⟩; have HB2 := Lib.hid ((Below.refl W0.heap.size W0).drew.trans hb2); have hR2 := (HB2.out.block _ (W.blk_lt HRR0.out.blk)).trans HRR0.out.blk; have hQ2 := (HB2.out.block _ hQl).trans HZ0.out; obtain ⟨f0, f1⟩ := And.intro (W.blk_frozen hR2 0) (W.blk_frozen hR2 1); have d0 : w2.cell? ⟨w1.heap.size, 0, none⟩ = some (.slice Ar nr cr) := by { rw [W.blk_cell hR2]; rfl }; have d1 : w2.cell? ⟨w1.heap.size, 1, none⟩ = some (.int .i64 s.2) := by { rw [W.blk_cell hR2]; rfl }; obtain ⟨_, dQ1, dQ2, dQ3, dQ4, _, _, fQ1, fQ2, fQ3, fQ4, _⟩ := zcells hQ2; have HP := Lib.hid (And.intro hp1 (And.intro hp2 (And.intro hp3 (And.intro hp4 hp5)))); have HP6 := Lib.hid hp6; have HP7 := Lib.hid hp7; clear hp1 hp2 hp3 hp4 hp5 hp6 hp7 hb2 hR2 hQ2 r0 r1 i5; unfold W.rdr)
                all_goals
                  go_wp2_with fail
                  go_meet
                  obtain ⟨b1, b2, b3, b4⟩ := fin3 (v0 := .slice A2 n2 c2) (v1 := .int .i64 (W.rB (s.fst, s.snd) x.m).1.2) (u := .slice Av (W.rB (s.fst, s.snd) x.m).2.length cv) (j := 3) HB2.out HRR0.out.blk HZ0.out hne
                  have hlen : (W.rB (s.fst, s.snd) x.m).2.length ≤ n0 := Nat.le_trans (W.rB_len HRR0.out.byt s.2 x.m) (by have := HRR0.out.len; have := HRR0.out.le; omega)
                  have hrv := (b4.rdi2 HP6.out (Nat.le_refl _) (fun a ha hp h => by have h7 : W0.heap.size ≤ a.block := HP7.out a ha hp; omega)).more b4.size
                  exact ⟨⟨0, 0, 0, Av, (W.rB (s.fst, s.snd) x.m).2.length, cv, (W.rB (s.fst, s.snd) x.m).2, none, 0, 0, [], 0⟩, A2, n2, c2, b2, KEY.out, ⟨rfl, rfl, Nat.le_trans hlen (by omega), Nat.zero_le _, hrv, H.RdI.nil⟩, ref_fin (bs := s.1) (e := s.2) (m := x.m) (v := x.val) (by rw [HV.out]; rfl) HRR0.out.byt (by have := HRR0.out.len; have := HRR0.out.le; omega) HBW.out b1 HP.out HB2.out, b3⟩
              · have g2 : (x.k == 2) = false := by simpa using h2
                have hv : x.val = .l x.ls := by unfold W.Itm.val; rw [if_neg h0, if_neg h1, if_neg h2]
                have hcall := W.rdints_any w.heap.size Ar nr cr s.1 s.2 x.m W0.drew HOK.out.m HBW.out.drew.size HRR0.out.byt HRR0.out.len (by have := HRR0.out.le; omega) HRR0.out.cap HRR0.out.capm HRR0.out.nil (HRR0.out.rd.below HBW.out.drew)
                unfold W.rdr at hcall
                have KEY := Lib.hid (sure_l HGot.out.sure h0 h1 h2)
                have HV := Lib.hid hv
                have HCALL := Lib.hid hcall
                have hne : ¬ w1.heap.size = wd.heap.size := by omega
                have hne' : ¬ wd.heap.size = w1.heap.size := by omega
                clear h0 h1 h2 hv hcall i0
                go_wp2_with fail
                go_region_with (go_at_call 28; refine HCALL.out.mono ?_; rintro r w2 ⟨A2, n2, c2, Av, cv, rfl, hp1, hp2, hp3, hp4, hp5, hp6, hb2, hp7⟩; have HB2 := Lib.hid ((Below.refl W0.heap.size W0).drew.trans hb2); have hR2 := (HB2.out.block _ (W.blk_lt HRR0.out.blk)).trans HRR0.out.blk; have hQ2 := (HB2.out.block _ hQl).trans HZ0.out; obtain ⟨f0, f1⟩ := And.intro (W.blk_frozen hR2 0) (W.blk_frozen hR2 1); have d0 : w2.cell? ⟨w1.heap.size, 0, none⟩ = some (.slice Ar nr cr) := by { rw [W.blk_cell hR2]; rfl }; have d1 : w2.cell? ⟨w1.heap.size, 1, none⟩ = some (.int .i64 s.2) := by { rw [W.blk_cell hR2]; rfl }; obtain ⟨_, dQ1, dQ2, dQ3, dQ4, _, _, fQ1, fQ2, fQ3, fQ4, _⟩ := zcells hQ2; have HP := Lib.hid (And.intro hp1 (And.intro hp2 (And.intro hp3 (And.intro hp4 hp5)))); have HP6 := Lib.hid hp6; have HP7 := Lib.hid hp7; clear hp1 hp2 hp3 hp4 hp5 hp6 hp7 hb2 hR2 hQ2 r0 r1 i5; unfold W.rdr)
                all_goals
                  go_wp2_with fail
                  go_meet
                  obtain ⟨b1, b2, b3, b4⟩ := fin3 (v0 := .slice A2 n2 c2) (v1 := .int .i64 (W.rL (s.fst, s.snd) x.m).1.2) (u := .slice Av (W.rL (s.fst, s.snd) x.m).2.length cv) (j := 4) HB2.out HRR0.out.blk HZ0.out hne
                  have hlen : (W.rL (s.fst, s.snd) x.m).2.length ≤ n0 := Nat.le_trans (W.rL_len HRR0.out.byt s.2 x.m) (by have := HRR0.out.len; have := HRR0.out.le; omega)
                  have hrv := (b4.rdi2 HP6.out (Nat.le_refl _) (fun a ha hp h => by have h7 : W0.heap.size ≤ a.block := HP7.out a ha hp; omega)).more b4.size
                  exact ⟨⟨0, 0, 0, none, 0, 0, [], Av, (W.rL (s.fst, s.snd) x.m).2.length, cv, (W.rL (s.fst, s.snd) x.m).2, 0⟩, A2, n2, c2, b2, KEY.out, ⟨rfl, rfl, Nat.zero_le _, Nat.le_trans hlen (by omega), H.RdI.nil, hrv⟩, ref_fin (bs := s.1) (e := s.2) (m := x.m) (v := x.val) (by rw [HV.out]; rfl) HRR0.out.byt (by have := HRR0.out.len; have := HRR0.out.le; omega) HBW.out b1 HP.out HB2.out, b3⟩
        case rest =>
          obtain ⟨q, Ar', nr', cr', hq, hyq, hL, hrr, hS⟩ := hcut
          obtain ⟨wx, hwx⟩ : ∃ W1, W1 = wc := ⟨_, rfl⟩
          subst hwx
          obtain ⟨s', hs'⟩ : ∃ s', (W.rV s x.m x.val).1 = s' := ⟨_, rfl⟩
          have hSc := HSc.out
          rw [hs'] at hrr hSc
          obtain rfl : s'.2 = e' := hSc.1
          have hbx : Below w.heap.size w wx := HBW.out.trans (hS.below HBW.out.size (fun j hj => by have := HB1.out.size; rcases hj with h | h <;> omega))
          have hPx : wx.heap[P]? = some (.cells #[.int .i64 y.k, .int .u64 y.u, .int .i64 y.i, .slice y.bA y.bn y.bc, .slice y.lA y.ln y.lc, .int .i64 y.m] 53 (0, 0)) := (hS.block P (by omega) (by omega)).trans ((HAL.out.block P hPl).trans HGot.out.blk)
          have hrx : W.RAt wx b A n0 c z0 kb' s'.2 := (HRc.out.same HAL.out).keep hS.size (hS.block b (by omega) (by omega)) (fun a ha => hS.block a.block (by have := HRc.out.inb a ha; omega) (by have := HRc.out.inb a ha; have := HR1.out.inb a ha; omega))
          have hyL : W.Lies wx y := by
            have hsu := HGot.out.sure
            refine ⟨hsu.ok.bl, hsu.ok.ll, ?_, ?_, ?_, ?_⟩
            · have := hL.bl; have := hL.bn; rw [← hsu.ok.bl, hyq.2.2.1]; omega
            · have := hL.ll; have := hL.ln; rw [← hsu.ok.ll, hyq.2.2.2]; omega
            · exact (hS.rdi2 (hsu.rb.below HAL.out) (by omega) (fun a ha hp h => by have h1 := HYA.out a ha; have h2 := W.RdI.lt0 hsu.rb a ha hp; omega)).more (by have := hS.size; omega)
            · exact (hS.rdi2 (hsu.rl.below HAL.out) (by omega) (fun a ha hp h => by have h1 := HYL.out a ha; have h2 := W.RdI.lt0 hsu.rl a ha hp; omega)).more (by have := hS.size; omega)
          have hPlx : P < wx.heap.size := W.blk_lt hPx
          have hQlx : wd.heap.size < wx.heap.size := W.blk_lt hq
          have hRlx : w1.heap.size < wx.heap.size := W.blk_lt hrr.blk
          have hgo : ∀ w' : World, Below wx.heap.size wx w' → w'.cell? ⟨P, 0, none⟩ = some (.int .i64 y.k) ∧ w'.cell? ⟨P, 1, none⟩ = some (.int .u64 y.u) ∧ w'.cell? ⟨P, 2, none⟩ = some (.int .i64 y.i) ∧ w'.cell? ⟨P, 3, none⟩ = some (.slice y.bA y.bn y.bc) ∧ w'.cell? ⟨P, 4, none⟩ = some (.slice y.lA y.ln y.lc) ∧ w'.cell? ⟨P, 5, none⟩ = some (.int .i64 y.m) ∧ w'.cell? ⟨wd.heap.size, 0, none⟩ = some (.int .i64 q.k) ∧ w'.cell? ⟨wd.heap.size, 1, none⟩ = some (.int .u64 q.u) ∧ w'.cell? ⟨wd.heap.size, 2, none⟩ = some (.int .i64 q.i) ∧ w'.cell? ⟨wd.heap.size, 3, none⟩ = some (.slice q.bA q.bn q.bc) ∧ w'.cell? ⟨wd.heap.size, 4, none⟩ = some (.slice q.lA q.ln q.lc) ∧ w'.cell? ⟨wd.heap.size, 5, none⟩ = some (.int .i64 q.m) ∧ w'.cell? ⟨w1.heap.size, 0, none⟩ = some (.slice Ar' nr' cr') ∧ w'.cell? ⟨w1.heap.size, 1, none⟩ = some (.int .i64 s'.2) ∧ Below wx.heap.size wx w' := fun w' h => by
            obtain ⟨p0, p1, p2, p3, p4, p5⟩ := W.cells6 ((h.block P hPlx).trans hPx)
            obtain ⟨t0, t1, t2, t3, t4, t5⟩ := W.cells6 ((h.block _ hQlx).trans hq)
            have hrb := (h.block _ hRlx).trans hrr.blk
            exact ⟨p0, p1, p2, p3, p4, p5, t0, t1, t2, t3, t4, t5, by rw [W.blk_cell hrb]; rfl, by rw [W.blk_cell hrb]; rfl, h⟩
          have hsame : ∀ W1 : World, Below wx.heap.size wx W1 → Calls Try.prog 31 #[.agg #[.int .i64 y.k, .int .u64 y.u, .int .i64 y.i, .slice y.bA y.bn y.bc, .slice y.lA y.ln y.lc, .int .i64 y.m], .agg #[.int .i64 q.k, .int .u64 q.u, .int .i64 q.i, .slice q.bA q.bn q.bc, .slice q.lA q.ln q.lc, .int .i64 q.m]] W1 fun r w' => r = .returned (.bool true) ∧ w'.cell? ⟨P, 0, none⟩ = some (.int .i64 y.k) ∧ w'.cell? ⟨P, 1, none⟩ = some (.int .u64 y.u) ∧ w'.cell? ⟨P, 2, none⟩ = some (.int .i64 y.i) ∧ w'.cell? ⟨P, 3, none⟩ = some (.slice y.bA y.bn y.bc) ∧ w'.cell? ⟨P, 4, none⟩ = some (.slice y.lA y.ln y.lc) ∧ w'.cell? ⟨P, 5, none⟩ = some (.int .i64 y.m) ∧ w'.cell? ⟨wd.heap.size, 0, none⟩ = some (.int .i64 q.k) ∧ w'.cell? ⟨wd.heap.size, 1, none⟩ = some (.int .u64 q.u) ∧ w'.cell? ⟨wd.heap.size, 2, none⟩ = some (.int .i64 q.i) ∧ w'.cell? ⟨wd.heap.size, 3, none⟩ = some (.slice q.bA q.bn q.bc) ∧ w'.cell? ⟨wd.heap.size, 4, none⟩ = some (.slice q.lA q.ln q.lc) ∧ w'.cell? ⟨wd.heap.size, 5, none⟩ = some (.int .i64 q.m) ∧ w'.cell? ⟨w1.heap.size, 0, none⟩ = some (.slice Ar' nr' cr') ∧ w'.cell? ⟨w1.heap.size, 1, none⟩ = some (.int .i64 s'.2) ∧ Below wx.heap.size wx w' := fun W1 h =>
            (W.same_any y q W1 ⟨hyL.bl, hyL.ll, hyL.bn, hyL.ln, (hyL.rb.below h).more h.size, (hyL.rl.below h).more h.size⟩ ⟨hL.bl, hL.ll, hL.bn, hL.ln, (hL.rb.below h).more h.size, (hL.rl.below h).more h.size⟩).mono fun r w' ⟨hr, hB⟩ => ⟨by rw [hr, decide_eq_true hyq], hgo w' (h.trans (hB.mono h.size))⟩
          have herr : ∀ W1 : World, Below wx.heap.size wx W1 → Calls Try.prog 22 #[.pointer (some ⟨b, 0, none⟩)] W1 fun r w' => r = .returned (.int .i64 s'.2) ∧ w'.cell? ⟨P, 0, none⟩ = some (.int .i64 y.k) ∧ w'.cell? ⟨P, 1, none⟩ = some (.int .u64 y.u) ∧ w'.cell? ⟨P, 2, none⟩ = some (.int .i64 y.i) ∧ w'.cell? ⟨P, 3, none⟩ = some (.slice y.bA y.bn y.bc) ∧ w'.cell? ⟨P, 4, none⟩ = some (.slice y.lA y.ln y.lc) ∧ w'.cell? ⟨P, 5, none⟩ = some (.int .i64 y.m) ∧ w'.cell? ⟨wd.heap.size, 0, none⟩ = some (.int .i64 q.k) ∧ w'.cell? ⟨wd.heap.size, 1, none⟩ = some (.int .u64 q.u) ∧ w'.cell? ⟨wd.heap.size, 2, none⟩ = some (.int .i64 q.i) ∧ w'.cell? ⟨wd.heap.size, 3, none⟩ = some (.slice q.bA q.bn q.bc) ∧ w'.cell? ⟨wd.heap.size, 4, none⟩ = some (.slice q.lA q.ln q.lc) ∧ w'.cell? ⟨wd.heap.size, 5, none⟩ = some (.int .i64 q.m) ∧ w'.cell? ⟨w1.heap.size, 0, none⟩ = some (.slice Ar' nr' cr') ∧ w'.cell? ⟨w1.heap.size, 1, none⟩ = some (.int .i64 s'.2) ∧ Below wx.heap.size wx w' := fun W1 h =>
            (W.err_any (hrx.same h)).mono fun r w' ⟨hr, hw⟩ => ⟨hr, hgo w' (by rw [hw]; exact h)⟩
          have hend : ∀ W1 : World, Below wx.heap.size wx W1 → Calls Try.prog 23 #[.pointer (some ⟨b, 0, none⟩)] W1 fun r w' => r = .returned (.int .i64 (W.endOf s')) ∧ w'.cell? ⟨P, 0, none⟩ = some (.int .i64 y.k) ∧ w'.cell? ⟨P, 1, none⟩ = some (.int .u64 y.u) ∧ w'.cell? ⟨P, 2, none⟩ = some (.int .i64 y.i) ∧ w'.cell? ⟨P, 3, none⟩ = some (.slice y.bA y.bn y.bc) ∧ w'.cell? ⟨P, 4, none⟩ = some (.slice y.lA y.ln y.lc) ∧ w'.cell? ⟨P, 5, none⟩ = some (.int .i64 y.m) ∧ w'.cell? ⟨wd.heap.size, 0, none⟩ = some (.int .i64 q.k) ∧ w'.cell? ⟨wd.heap.size, 1, none⟩ = some (.int .u64 q.u) ∧ w'.cell? ⟨wd.heap.size, 2, none⟩ = some (.int .i64 q.i) ∧ w'.cell? ⟨wd.heap.size, 3, none⟩ = some (.slice q.bA q.bn q.bc) ∧ w'.cell? ⟨wd.heap.size, 4, none⟩ = some (.slice q.lA q.ln q.lc) ∧ w'.cell? ⟨wd.heap.size, 5, none⟩ = some (.int .i64 q.m) ∧ w'.cell? ⟨w1.heap.size, 0, none⟩ = some (.slice Ar' nr' cr') ∧ w'.cell? ⟨w1.heap.size, 1, none⟩ = some (.int .i64 s'.2) ∧ Below wx.heap.size wx w' := fun W1 h =>
            (W.end_rd (hrx.same h) hSc).mono fun r w' ⟨hr, m, hw⟩ => ⟨hr, hgo w' (by rw [hw]; exact below_drewN h m)⟩
          have hendr : ∀ W1 : World, Below wx.heap.size wx W1 → Calls Try.prog 24 #[.agg #[.slice Ar' nr' cr', .int .i64 s'.2]] W1 fun r w' => r = .returned (.int .i64 (W.endOf s')) ∧ w'.cell? ⟨P, 0, none⟩ = some (.int .i64 y.k) ∧ w'.cell? ⟨P, 1, none⟩ = some (.int .u64 y.u) ∧ w'.cell? ⟨P, 2, none⟩ = some (.int .i64 y.i) ∧ w'.cell? ⟨P, 3, none⟩ = some (.slice y.bA y.bn y.bc) ∧ w'.cell? ⟨P, 4, none⟩ = some (.slice y.lA y.ln y.lc) ∧ w'.cell? ⟨P, 5, none⟩ = some (.int .i64 y.m) ∧ w'.cell? ⟨wd.heap.size, 0, none⟩ = some (.int .i64 q.k) ∧ w'.cell? ⟨wd.heap.size, 1, none⟩ = some (.int .u64 q.u) ∧ w'.cell? ⟨wd.heap.size, 2, none⟩ = some (.int .i64 q.i) ∧ w'.cell? ⟨wd.heap.size, 3, none⟩ = some (.slice q.bA q.bn q.bc) ∧ w'.cell? ⟨wd.heap.size, 4, none⟩ = some (.slice q.lA q.ln q.lc) ∧ w'.cell? ⟨wd.heap.size, 5, none⟩ = some (.int .i64 q.m) ∧ w'.cell? ⟨w1.heap.size, 0, none⟩ = some (.slice Ar' nr' cr') ∧ w'.cell? ⟨w1.heap.size, 1, none⟩ = some (.int .i64 s'.2) ∧ Below wx.heap.size wx w' := fun W1 h =>
            (W.end_any Ar' nr' cr' s'.1 s'.2 W1 hrr.len).mono fun r w' ⟨hr, hB⟩ => ⟨hr, hgo w' (h.trans (hB.mono h.size))⟩
          obtain ⟨kk0, kk1, kk2, kk3, kk4, kk5, kk6, kk7, kk8, kk9, kk10, kk11, kk12, kk13, kk14⟩ := hgo wx.drew (Below.refl _ _).drew
          have HSM := Lib.hid hsame
          have HER := Lib.hid herr
          have HEN := Lib.hid hend
          have HENR := Lib.hid hendr
          have HRX := Lib.hid hrx
          have HRRX := Lib.hid hrr
          have HBX := Lib.hid hbx
          have HSX := Lib.hid hSc
          clear hsame herr hend hendr hrx hrr hbx hSc hgo hyL hPx hq hL hyq hs' hS HZ0 HRR0 HSc r0 r1 i0 i5
          go_wp2_with fail
          go_region_held3 (fun w' => w'.cell? ⟨P, 0, none⟩ = some (.int .i64 y.k) ∧ w'.cell? ⟨P, 1, none⟩ = some (.int .u64 y.u) ∧ w'.cell? ⟨P, 2, none⟩ = some (.int .i64 y.i) ∧ w'.cell? ⟨P, 3, none⟩ = some (.slice y.bA y.bn y.bc) ∧ w'.cell? ⟨P, 4, none⟩ = some (.slice y.lA y.ln y.lc) ∧ w'.cell? ⟨P, 5, none⟩ = some (.int .i64 y.m) ∧ w'.cell? ⟨wd.heap.size, 0, none⟩ = some (.int .i64 q.k) ∧ w'.cell? ⟨wd.heap.size, 1, none⟩ = some (.int .u64 q.u) ∧ w'.cell? ⟨wd.heap.size, 2, none⟩ = some (.int .i64 q.i) ∧ w'.cell? ⟨wd.heap.size, 3, none⟩ = some (.slice q.bA q.bn q.bc) ∧ w'.cell? ⟨wd.heap.size, 4, none⟩ = some (.slice q.lA q.ln q.lc) ∧ w'.cell? ⟨wd.heap.size, 5, none⟩ = some (.int .i64 q.m) ∧ w'.cell? ⟨w1.heap.size, 0, none⟩ = some (.slice Ar' nr' cr') ∧ w'.cell? ⟨w1.heap.size, 1, none⟩ = some (.int .i64 s'.2) ∧ Below wx.heap.size wx w') (first | (with_reducible exact ⟨kk0, kk1, kk2, kk3, kk4, kk5, kk6, kk7, kk8, kk9, kk10, kk11, kk12, kk13, kk14⟩) | (with_reducible exact ⟨by assumption, by assumption, by assumption, by assumption, by assumption, by assumption, by assumption, by assumption, by assumption, by assumption, by assumption, by assumption, by assumption, by assumption, by assumption⟩) | go_keep)
            (first | (go_at_call 31; refine (HSM.out _ ?_).mono ?_; (assumption); rintro r w7 ⟨rfl, d0, d1, d2, d3, d4, d5, d6, d7, d8, d9, d10, d11, d12, d13, d14⟩) | (go_at_call 22; refine (HER.out _ ?_).mono ?_; (assumption); rintro r w7 ⟨rfl, d0, d1, d2, d3, d4, d5, d6, d7, d8, d9, d10, d11, d12, d13, d14⟩) | (go_at_call 23; refine (HEN.out _ ?_).mono ?_; (assumption); rintro r w7 ⟨rfl, d0, d1, d2, d3, d4, d5, d6, d7, d8, d9, d10, d11, d12, d13, d14⟩) | (go_at_call 24; refine (HENR.out _ ?_).mono ?_; (assumption); rintro r w7 ⟨rfl, d0, d1, d2, d3, d4, d5, d6, d7, d8, d9, d10, d11, d12, d13, d14⟩))
          all_goals
            clear kk0 kk1 kk2 kk3 kk4 kk5 kk6 kk7 kk8 kk9 kk10 kk11 kk12 kk13 kk14
            have hb9 := ‹Below wx.heap.size wx _›
            have HB9 := Lib.hid hb9
            clear hb9
            go_wp2_with fail
            go_roundg (gk - 1)
            case measure => have := HG.out; omega
            case rel => exact ⟨k + 1, kb', s'.2, Ar', nr', cr', s', by have := HG.out; omega, by go_num, HRX.out.same HB9.out, HSX.out, HRRX.out.keep (HB9.out.block _ hRlx), HBX.out.trans (HB9.out.mono HBX.out.size)⟩
    · have hlv := W.lives_any wr
      go_wp2_with fail
      refine hlv.mono ?_
      clear hlv
      rintro r w7 ⟨rfl, hb7⟩
      have HB7 := Lib.hid (HBr.out.trans (hb7.mono HBr.out.size))
      clear hb7
      go_wp2_with fail
      go_ret
      exact ⟨rfl, HB7.out⟩

set_option maxRecDepth 100000 in
theorem lifted (os : Os) (started : os.Started) (H0 : Type) (enc : TypeId × Value → H0) (F0 : Stop.Interp) :
    ReturnsInHanded {} Try.checked os 6 .any ((Rows.OpenSpec.upto Rows.wireReadsSpec).pre6 enc Try.prog Try.f6 Rows.wireReadsUptoRow.domain false) (((Rows.OpenSpec.upto Rows.wireReadsSpec).at F0).post enc Try.prog Try.f6 false true false false) := by
  refine returnsInHanded_of_cond_sized (C := Try.checked) (s := (Rows.OpenSpec.upto Rows.wireReadsSpec)) (k := Rows.uptoSmall) rfl W.own started (by kernel_rfl) Try.func6
    (OpenSpec.witness (enc := enc) (C := Try.checked) (s := (Rows.OpenSpec.upto Rows.wireReadsSpec)) (k := Rows.uptoSmall) rfl false ⟨#[], #[.slice none 0 0, .slice none 0 0], []⟩ 8 (by kernel_rfl) (by kernel_rfl) (by kernel_rfl)
      (x := ([.nil, .nil], [], [])) (by kernel_rfl) (by kernel_rfl) (by kernel_rfl)) ?_
  intro W base args ds gs before hval0 hW hcnd hk0 hsz0 _
  have hval : ∀ (j : Nat) t v, Try.f6.params[j]? = some t → args[j]? = some v → Value.okWide Try.prog W .any base t v := hval0
  have hW' := hW
  obtain ⟨p, q, hA0, hV, rfl, hfz, hnd⟩ := hW
  have hA : DataW.TrodAll enc Try.prog W 0 (fun _ => true) true Try.f6.params.toList args.toList ds p := hA0
  rw [Try.params6] at hA hval
  obtain ⟨v0, vs0, d0, ds0, p0, q0, hargs, rfl, rfl, h0, r0⟩ := trodAll_cons hA
  obtain ⟨v1, vs1, d1, ds1, p1, q1, rfl, rfl, rfl, h1, r1⟩ := trodAll_cons r0
  obtain ⟨rfl, rfl, rfl⟩ := trodAll_nil r1
  obtain rfl : args = #[v0, v1] := by cases args; simp_all
  obtain ⟨rfl, rfl⟩ := trodVars_none hV
  obtain ⟨a0, n0, c0, rfl⟩ := okWide_slice Try.underlying24 (hval 0 24 v0 rfl rfl)
  have k0 := h0
  have lt0 : ∀ x ∈ p0, x.block < W.heap.size := by obtain ⟨m, hm⟩ := k0; exact DataW.trod_lt m _ _ _ hm
  obtain ⟨z0, l0, cp0, cq0, nz0, rd0, wf0, bj0⟩ := Go.Proofs.Ytdfokmhpnniphaa.W.open_isT Try.underlying24 Try.underlying5 (by kernel_rfl) h0
  obtain ⟨a1, n1, c1, rfl⟩ := okWide_slice Try.underlying22 (hval 1 22 v1 rfl rfl)
  have k1 := h1
  have lt1 : ∀ x ∈ p1, x.block < W.heap.size := by obtain ⟨m, hm⟩ := k1; exact DataW.trod_lt m _ _ _ hm
  obtain ⟨z1, l1, cp1, cq1, nz1, rd1, wf1, bj1⟩ := Go.Proofs.Ytdfokmhpnniphaa.W.open_its h1
  clear hA0 hval0
  have hk := of_decide_eq_true hk0
  simp only [List.append_nil, Rows.uptoBulkAll] at hk
  have bk0 : z0.length ≤ 1048575 := by omega
  have bk1 : (z1.map Go.Proofs.Ytdfokmhpnniphaa.W.Itm.w).sum ≤ 1048576 := by omega
  refine (walk a0 n0 c0 z0 a1 n1 c1 z1 W l0 ⟨cp0, cq0⟩ nz0 rd0 wf0 bk0 l1 ⟨cp1, cq1⟩ nz1 rd1 wf1 bk1).mono fun e W' ⟨he, bel⟩ => ?_
  subst he
  exact ⟨_, rfl, _, _, _, [], _, [], hW', trodAll_mk1 (shut_bool Try.underlying4 _), (trodAll_cons_mk (Below.trod Go.Proofs.Ytdfokmhpnniphaa.W.laidOut (by kernel_rfl) (of_decide_eq_true (by kernel_rfl)) k0 bel lt0) (trodAll_cons_mk (Below.trod Go.Proofs.Ytdfokmhpnniphaa.W.laidOut (by kernel_rfl) (of_decide_eq_true (by kernel_rfl)) k1 bel lt1) trodAll_mk0)), rfl, bel.frame _, fun h => by cases h⟩

/-- ████ THE STATEMENT ████ -/
theorem proved : Rows.WireReadsUptoSaid :=
  OpenClaim.holds_of_cond 6 Try.f6 rfl rfl rfl rfl rfl rfl rfl ⟨rfl, rfl, rfl, rfl, rfl⟩ rfl rfl rfl rfl rfl (by kernel_rfl) Try.func6 (by kernel_rfl)
    (of_decide_eq_true (by kernel_rfl)) (by unfold Func.isWrapper; first | (rw [if_pos (by decide +kernel)]; kernel_rfl) | (rw [if_neg (by decide +kernel)]; exact ⟨rfl, rfl⟩))
    (fun os started H0 enc _ F0 => by rw [OpenClaim.pre_of_none' rfl]; exact lifted os started H0 enc F0)
end Go.Proofs.Ytdfokmhpnniphaa.wireReads
