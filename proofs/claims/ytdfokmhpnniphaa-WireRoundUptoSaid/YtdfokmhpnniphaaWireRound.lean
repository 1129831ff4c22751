/-
  For every list of items that holds at most 1048576 values, WireRound returns true: reading what was written, with the lengths as limits, returns the values, and End returns OK.
-/
import Derived.Test.YtdfokmhpnniphaaWLives
import Derived.Test.YtdfokmhpnniphaaWRead
import Derived.Test.YtdfokmhpnniphaaWWritten
import Derived.Deep.RegionHeld3
import Derived.Deep.DeepCutAuto
import Derived.Deep.LoopGhost
namespace Go.Proofs.Ytdfokmhpnniphaa.wireRound
open Go.ChangeShapes Go.WideShapes Go.ChangeAt Go.RowKit
open Go.ChangeMaps (open_string shut_string)
set_option linter.unusedVariables false
open W H in
theorem val_fit {x : W.Itm} (h : x.Ok) (hb : x.bs.length ≤ 1048576) (hl : x.ls.length ≤ 1048576) : W.Fit x.val := by
  unfold W.Itm.val
  split
  · exact h.u
  · split
    · exact h.i
    · split
      · show x.bs.length < 9223372036854775808
        omega
      · exact ⟨by omega, h.lb⟩
open W H in
theorem rV_len {x : W.Itm} (h : x.Ok) (s : W.St) : W.rV s (x.len : Int) x.val = W.rV s (W.size x.val) x.val := by
  unfold W.Itm.val W.Itm.len
  by_cases h0 : x.k = 0
  · rw [if_pos h0]; rfl
  · rw [if_neg h0]
    by_cases h1 : x.k = 1
    · rw [if_pos h1]; rfl
    · rw [if_neg h1]
      by_cases h2 : x.k = 2
      · rw [if_pos h2, if_pos h2, ← h.bl]; rfl
      · rw [if_neg h2, if_neg h2, ← h.ll]; rfl
/-- What is left of an encoding when the first item has been read. -/
theorem rV_next {xs : List W.Itm} {k : Nat} {x : W.Itm} (hx : xs[k]? = some x) (hfit : W.Fit x.val) : W.rV (W.encAll ((xs.map W.Itm.val).drop k), 0) (W.size x.val) x.val = ((W.encAll ((xs.map W.Itm.val).drop (k + 1)), 0), x.val) := by
  have h : (xs.map W.Itm.val).drop k = x.val :: (xs.map W.Itm.val).drop (k + 1) := by
    have hk : k < xs.length := (List.getElem?_eq_some_iff.1 hx).1
    rw [List.drop_eq_getElem_cons (by rw [List.length_map]; exact hk)]
    congr 1
    rw [List.getElem_map]
    congr 1
    exact (List.getElem?_eq_some_iff.1 hx).2
  rw [h]
  show W.rV (W.enc x.val ++ W.encAll _, 0) _ _ = _
  exact W.rV_enc x.val hfit _

open W H in
set_option maxHeartbeats 1000000 in
theorem length_more (x : W.Itm) (w : World) :
    Calls Try.prog 32 #[x.agg] w fun r w' => r = .returned (.int .i64 x.len) ∧ Below w.heap.size w w' ∧ w.heap.size < w'.heap.size := by
  unfold Itm.agg Itm.len
  by_cases h : x.k = 2
  · have h1 : (x.k == 2) = true := by simpa using h
    rw [if_pos h]
    clear h
    go_enter Try.func32, Try.ntmps32
    go_wp2
    go_ret
    exact ⟨rfl, (Below.refl _ _).alloc (Nat.le_refl _) _, by simp⟩
  · have h1 : (x.k == 2) = false := by simpa using h
    rw [if_neg h]
    clear h
    go_enter Try.func32, Try.ntmps32
    go_wp2
    go_ret
    exact ⟨rfl, (Below.refl _ _).alloc (Nat.le_refl _) _, by simp⟩

def zitem : Option Obj := some (.cells #[.int .i64 0, .int .u64 0, .int .i64 0, .slice none 0 0, .slice none 0 0, .int .i64 0] 53 (0, 0))
theorem zcells {w : World} {b : Nat} (h : w.heap[b]? = zitem) :
    w.cell? ⟨b, 0, none⟩ = some (.int .i64 0) ∧ w.cell? ⟨b, 1, none⟩ = some (.int .u64 0) ∧ w.cell? ⟨b, 2, none⟩ = some (.int .i64 0) ∧ w.cell? ⟨b, 3, none⟩ = some (.slice none 0 0) ∧ w.cell? ⟨b, 4, none⟩ = some (.slice none 0 0) ∧ w.cell? ⟨b, 5, none⟩ = some (.int .i64 0) ∧
    w.frozen? ⟨b, 0, none⟩ = false ∧ w.frozen? ⟨b, 1, none⟩ = false ∧ w.frozen? ⟨b, 2, none⟩ = false ∧ w.frozen? ⟨b, 3, none⟩ = false ∧ w.frozen? ⟨b, 4, none⟩ = false ∧ w.frozen? ⟨b, 5, none⟩ = false := by
  obtain ⟨a0, a1, a2, a3, a4, a5⟩ := W.cells6 h
  obtain ⟨b0, b1, b2, b3, b4, b5⟩ := W.frozen6 h
  exact ⟨a0, a1, a2, a3, a4, a5, b0, b1, b2, b3, b4, b5⟩
theorem lt_alloc (w : World) (o : Obj) : w.heap.size < (w.alloc o).heap.size := by simp
theorem keep6 {B P : Nat} {w W : World} {v0 v1 v2 v3 v4 v5 : Value} (h : Below B w W) (hP : B ≤ P) : Below B w ((((((W.setCell ⟨P, 0, none⟩ v0).setCell ⟨P, 1, none⟩ v1).setCell ⟨P, 2, none⟩ v2).setCell ⟨P, 3, none⟩ v3).setCell ⟨P, 4, none⟩ v4).setCell ⟨P, 5, none⟩ v5) :=
  (((((h.setCell (p := ⟨P, 0, none⟩) hP _).setCell (p := ⟨P, 1, none⟩) hP _).setCell (p := ⟨P, 2, none⟩) hP _).setCell (p := ⟨P, 3, none⟩) hP _).setCell (p := ⟨P, 4, none⟩) hP _).setCell (p := ⟨P, 5, none⟩) hP _

open W H in
/-- At block P lies the item y that has been read, its slices in memory. -/
structure Got (w wc : World) (P : Nat) (x y : W.Itm) : Prop where
  blk : wc.heap[P]? = some (.cells #[.int .i64 y.k, .int .u64 y.u, .int .i64 y.i, .slice y.bA y.bn y.bc, .slice y.lA y.ln y.lc, .int .i64 y.m] 53 (0, 0))
  low : w.heap.size ≤ P
  ok : y.Ok
  k : y.k = x.k
  v : y.val = x.val
  rb : RdI wc wc.heap.size .u8 y.bA y.bs
  rl : RdI wc wc.heap.size .i64 y.lA y.ls

theorem got_key {x y : W.Itm} (hk : y.k = x.k) (hv : y.val = x.val) : (x.k = 0 → y.u = x.u) ∧ (x.k = 1 → y.i = x.i) ∧ (x.k = 2 → y.bs = x.bs) ∧ (x.k ≠ 0 → x.k ≠ 1 → x.k ≠ 2 → y.ls = x.ls) := by
  unfold W.Itm.val at hv
  rw [hk] at hv
  refine ⟨fun h => ?_, fun h => ?_, fun h => ?_, fun h0 h1 h2 => ?_⟩
  · rw [if_pos h, if_pos h] at hv; injection hv
  · have h0 : ¬ x.k = 0 := by omega
    rw [if_neg h0, if_neg h0, if_pos h, if_pos h] at hv; injection hv
  · have h0 : ¬ x.k = 0 := by omega
    have h1 : ¬ x.k = 1 := by omega
    rw [if_neg h0, if_neg h0, if_neg h1, if_neg h1, if_pos h, if_pos h] at hv; injection hv
  · rw [if_neg h0, if_neg h0, if_neg h1, if_neg h1, if_neg h2, if_neg h2] at hv; injection hv

open W H in
theorem save6 (X : World) (P : Nat) (v0 v1 v2 v3 v4 v5 : Value) : Save (· = P) X ((((((X.setCell ⟨P, 0, none⟩ v0).setCell ⟨P, 1, none⟩ v1).setCell ⟨P, 2, none⟩ v2).setCell ⟨P, 3, none⟩ v3).setCell ⟨P, 4, none⟩ v4).setCell ⟨P, 5, none⟩ v5) :=
  ((((((Save.refl (· = P) X).setCell (p := ⟨P, 0, none⟩) rfl _).setCell (p := ⟨P, 1, none⟩) rfl _).setCell (p := ⟨P, 2, none⟩) rfl _).setCell (p := ⟨P, 3, none⟩) rfl _).setCell (p := ⟨P, 4, none⟩) rfl _).setCell (p := ⟨P, 5, none⟩) rfl _
open W H in
theorem got_fin {w wr X : World} {P b n c kb : Nat} {A : Option Addr} {E : List Int} {x y : W.Itm} (hz : X.heap[P]? = zitem) (hB : Below w.heap.size w X) (hPr : wr.heap.size ≤ P) (hwr : w.heap.size ≤ wr.heap.size) (hb : b < wr.heap.size) (hA : ∀ a, A = some a → a.block < wr.heap.size)
    (hY : y.Ok ∧ y.k = x.k ∧ y.val = x.val ∧ H.RdI X X.heap.size .u8 y.bA y.bs ∧ H.RdI X X.heap.size .i64 y.lA y.ls) (h1 : ∀ a, y.bA = some a → 0 < y.bs.length → a.block ≠ P) (h2 : ∀ a, y.lA = some a → 0 < y.ls.length → a.block ≠ P) (hR : W.RAt X b A n c E kb 0) :
    Got w ((((((X.setCell ⟨P, 0, none⟩ (.int .i64 y.k)).setCell ⟨P, 1, none⟩ (.int .u64 y.u)).setCell ⟨P, 2, none⟩ (.int .i64 y.i)).setCell ⟨P, 3, none⟩ (.slice y.bA y.bn y.bc)).setCell ⟨P, 4, none⟩ (.slice y.lA y.ln y.lc)).setCell ⟨P, 5, none⟩ (.int .i64 y.m)) P x y ∧
    W.RAt ((((((X.setCell ⟨P, 0, none⟩ (.int .i64 y.k)).setCell ⟨P, 1, none⟩ (.int .u64 y.u)).setCell ⟨P, 2, none⟩ (.int .i64 y.i)).setCell ⟨P, 3, none⟩ (.slice y.bA y.bn y.bc)).setCell ⟨P, 4, none⟩ (.slice y.lA y.ln y.lc)).setCell ⟨P, 5, none⟩ (.int .i64 y.m)) b A n c E kb 0 ∧
    Below w.heap.size w ((((((X.setCell ⟨P, 0, none⟩ (.int .i64 y.k)).setCell ⟨P, 1, none⟩ (.int .u64 y.u)).setCell ⟨P, 2, none⟩ (.int .i64 y.i)).setCell ⟨P, 3, none⟩ (.slice y.bA y.bn y.bc)).setCell ⟨P, 4, none⟩ (.slice y.lA y.ln y.lc)).setCell ⟨P, 5, none⟩ (.int .i64 y.m)) := by
  have hs := save6 X P (.int .i64 y.k) (.int .u64 y.u) (.int .i64 y.i) (.slice y.bA y.bn y.bc) (.slice y.lA y.ln y.lc) (.int .i64 y.m)
  refine ⟨⟨?_, by omega, hY.1, hY.2.1, hY.2.2.1, (hs.rdi2 hY.2.2.2.1 (Nat.le_refl _) h1).more hs.size, (hs.rdi2 hY.2.2.2.2 (Nat.le_refl _) h2).more hs.size⟩, hR.apart hs (by omega) (fun a ha => by have := hA a ha; omega), keep6 hB (by omega)⟩
  exact W.blk_set (W.blk_set (W.blk_set (W.blk_set (W.blk_set (W.blk_set hz 0 (.int .i64 y.k)) 1 (.int .u64 y.u)) 2 (.int .i64 y.i)) 3 (.slice y.bA y.bn y.bc)) 4 (.slice y.lA y.ln y.lc)) 5 (.int .i64 y.m)


set_option maxRecDepth 100000 in
set_option maxHeartbeats 1000000 in
theorem walk (a0 : Option Addr) (n0 c0 : Nat) (z0 : List W.Itm) (w : World) (l0 : z0.length = n0) (cp0 : n0 ≤ c0 ∧ c0 ≤ maxLen) (nz0 : a0 = none → c0 = 0) (rd0 : W.RdIt w w.heap.size a0 z0) (wf0 : ∀ x ∈ z0, x.Ok) (bk0 : (z0.map Go.Proofs.Ytdfokmhpnniphaa.W.Itm.w).sum ≤ 1048576) :
    Calls Try.prog 7 #[.slice a0 n0 c0] w fun e w' => e = .returned (.bool true) ∧ Below w.heap.size w w' := by
  obtain ⟨hok, htot, hlen⟩ := W.its_small wf0 bk0
  have h1 := W.written_any a0 n0 c0 z0 w l0 (by omega) rd0 (fun x hx => ⟨(hok x hx).1, by have := (hok x hx).2.1; omega, (hok x hx).2.2⟩) (by omega) (fun x hx => by have := (hok x hx).2.1; omega)
  have hb0 : H.Byt (W.encAll (z0.map W.Itm.val)) := W.encAll_byt fun x hx => (hok x hx).1
  obtain ⟨E, hE⟩ : ∃ E, W.encAll (z0.map W.Itm.val) = E := ⟨_, rfl⟩
  rw [hE] at h1 htot hb0
  have HE := Lib.hid hE
  have HR := Lib.hid rd0
  have HL := Lib.hid l0
  have HK := Lib.hid hok
  have HB0 := Lib.hid hb0
  have hcm : c0 ≤ 9223372036854775807 := cp0.2
  have hcn := cp0.1
  clear rd0 l0 wf0 nz0 bk0 cp0 hok hE hb0
  go_enter Try.func7, Try.ntmps7
  go_wp2_with fail
  refine h1.mono ?_
  clear h1
  rintro r w1 ⟨v1, rfl, ho1, hB1⟩
  obtain ⟨A1, c1, rfl⟩ := H.own_shape ho1
  obtain ⟨_, o1, o2, o3, o4⟩ := W.own_cap ho1
  have hnew := W.new_any A1 E.length c1 E w1 rfl (by omega) o3 HB0.out (H.own_RdI ho1)
  have HB1 := Lib.hid hB1
  clear ho1 hB1 o1 o2 o3 o4
  go_wp2_with fail
  refine hnew.mono ?_
  clear hnew
  rintro r w2 ⟨b, A, c, rfl, hr2, hb2, _, hB2⟩
  have HR2 := Lib.hid hr2
  have HB2 := Lib.hid (HB1.out.trans (hB2.mono HB1.out.size))
  have hbw : w.heap.size ≤ b := by have := HB1.out.size; omega
  clear hr2 hb2 hB2 HB1
  go_wp2_with fail
  go_loopg [4] n0 (fun g i wr => ∃ k kb : Nat, k + g = n0 ∧ i = .int .i64 k ∧ W.RAt wr b A E.length c E kb 0 ∧ E.drop kb = W.encAll ((z0.map W.Itm.val).drop k) ∧ Below w.heap.size w wr)
  case atStart => exact ⟨0, 0, Nat.zero_add _, rfl, HR2.out, HE.out.symm, HB2.out⟩
  case round =>
    obtain ⟨k, kb, hg, rfl, hr, hd, hB⟩ := hrel
    have HRr := Lib.hid hr
    have HBr := Lib.hid hB
    have HD := Lib.hid hd
    have HG := Lib.hid hg
    have hk : k ≤ n0 := by omega
    clear hr hB hd hg
    by_cases hlt : k < n0
    · obtain ⟨x, hx⟩ : ∃ x, z0[k]? = some x := ⟨_, List.getElem?_eq_getElem (by rw [HL.out]; exact hlt)⟩
      obtain ⟨ad, rfl, ha, hri⟩ := (HR.out.below HBr.out) k x hx
      obtain ⟨hok, hob, hol⟩ := HK.out x (List.mem_of_getElem? hx)
      have hst : W.rV (E.drop kb, 0) (x.len : Int) x.val = ((W.encAll ((z0.map W.Itm.val).drop (k + 1)), 0), x.val) := by
        rw [rV_len hok, HD.out]
        exact rV_next hx (val_fit hok hob hol)
      have hbr := W.blk_lt HRr.out.blk
      have hcells : ∀ w' : World, Below w.heap.size w w' → wr.heap.size ≤ w'.heap.size → w'.cell? (ad.add (k * 6)) = some (.int .i64 x.k) ∧ w'.cell? ⟨(ad.add (k * 6)).block, (ad.add (k * 6)).off + 1, none⟩ = some (.int .u64 x.u) ∧ w'.cell? ⟨(ad.add (k * 6)).block, (ad.add (k * 6)).off + 2, none⟩ = some (.int .i64 x.i) ∧ w'.cell? ⟨(ad.add (k * 6)).block, (ad.add (k * 6)).off + 3, none⟩ = some (.slice x.bA x.bn x.bc) ∧ w'.cell? ⟨(ad.add (k * 6)).block, (ad.add (k * 6)).off + 4, none⟩ = some (.slice x.lA x.ln x.lc) ∧ w'.cell? ⟨(ad.add (k * 6)).block, (ad.add (k * 6)).off + 5, none⟩ = some (.int .i64 x.m) ∧ Below w.heap.size w w' ∧ wr.heap.size ≤ w'.heap.size := fun w' hb hz => by
        obtain ⟨ad', e, _, hri⟩ := (HR.out.below hb) k x hx
        cases e
        obtain ⟨hc0, hc1, hc2, hc3, hc4, hc5, _, _⟩ := hri
        rw [W.add_pos _ _ (by decide)] at hc1 hc2 hc3 hc4 hc5
        exact ⟨hc0, hc1, hc2, hc3, hc4, hc5, hb, hz⟩
      have hlen1 : ∀ W1 : World, Below w.heap.size w W1 → wr.heap.size ≤ W1.heap.size → Calls Try.prog 32 #[x.agg] W1 fun r w' => r = .returned (.int .i64 x.len) ∧ (W.RAt W1 b A E.length c E kb 0 → W.RAt w' b A E.length c E kb 0) ∧ Below W1.heap.size W1 w' ∧ wr.heap.size < w'.heap.size ∧ ¬ w'.heap.size = b ∧ w'.cell? (ad.add (k * 6)) = some (.int .i64 x.k) ∧ w'.cell? ⟨(ad.add (k * 6)).block, (ad.add (k * 6)).off + 1, none⟩ = some (.int .u64 x.u) ∧ w'.cell? ⟨(ad.add (k * 6)).block, (ad.add (k * 6)).off + 2, none⟩ = some (.int .i64 x.i) ∧ w'.cell? ⟨(ad.add (k * 6)).block, (ad.add (k * 6)).off + 3, none⟩ = some (.slice x.bA x.bn x.bc) ∧ w'.cell? ⟨(ad.add (k * 6)).block, (ad.add (k * 6)).off + 4, none⟩ = some (.slice x.lA x.ln x.lc) ∧ w'.cell? ⟨(ad.add (k * 6)).block, (ad.add (k * 6)).off + 5, none⟩ = some (.int .i64 x.m) ∧ Below w.heap.size w w' ∧ wr.heap.size ≤ w'.heap.size := fun W1 hb hz =>
        (length_more x W1).mono fun r w' ⟨hr, hB, hl⟩ => ⟨hr, fun h => h.same hB, hB, by omega, by omega, hcells w' (hb.trans (hB.mono hb.size)) (by omega)⟩
      have hread : ∀ W1 : World, W.RAt W1 b A E.length c E kb 0 → Below w.heap.size w W1 → wr.heap.size ≤ W1.heap.size → Calls Try.prog 30 #[.pointer (some ⟨b, 0, none⟩), x.agg, .int .i64 x.len] W1 fun r w' => ∃ y : W.Itm, r = .returned y.agg ∧ (y.Ok ∧ y.k = x.k ∧ y.val = x.val ∧ H.RdI w' w'.heap.size .u8 y.bA y.bs ∧ H.RdI w' w'.heap.size .i64 y.lA y.ls) ∧ (∃ kb', W.RAt w' b A E.length c E kb' 0 ∧ E.drop kb' = W.encAll ((z0.map W.Itm.val).drop (k + 1))) ∧ W.Save (· = b) W1 w' ∧ (∀ a, y.bA = some a → W1.heap.size ≤ a.block) ∧ (∀ a, y.lA = some a → W1.heap.size ≤ a.block) ∧ w'.cell? (ad.add (k * 6)) = some (.int .i64 x.k) ∧ w'.cell? ⟨(ad.add (k * 6)).block, (ad.add (k * 6)).off + 1, none⟩ = some (.int .u64 x.u) ∧ w'.cell? ⟨(ad.add (k * 6)).block, (ad.add (k * 6)).off + 2, none⟩ = some (.int .i64 x.i) ∧ w'.cell? ⟨(ad.add (k * 6)).block, (ad.add (k * 6)).off + 3, none⟩ = some (.slice x.bA x.bn x.bc) ∧ w'.cell? ⟨(ad.add (k * 6)).block, (ad.add (k * 6)).off + 4, none⟩ = some (.slice x.lA x.ln x.lc) ∧ w'.cell? ⟨(ad.add (k * 6)).block, (ad.add (k * 6)).off + 5, none⟩ = some (.int .i64 x.m) ∧ Below w.heap.size w w' ∧ wr.heap.size ≤ w'.heap.size := fun W1 h1 hb hz =>
        (W.read_any (s := (E.drop kb, 0)) x (x.len : Int) (by unfold W.Itm.len; split; (rw [← hok.bl]; omega); (rw [← hok.ll]; omega)) hok (fun _ => by simp only [List.length_drop]; omega) h1 ⟨rfl, fun _ => rfl⟩).mono fun r w' h => by
          rw [hst] at h
          obtain ⟨y, hr, yok, yk, yv, _, _, _, _, _, yb, yl, yab, yal, kb', e', yR, yS, yV⟩ := h
          obtain rfl : e' = 0 := yS.1.symm
          exact ⟨y, hr, ⟨yok, yk, yv, yb, yl⟩, ⟨kb', yR, (yS.2 rfl).symm⟩, yV, fun a ha => (yab a ha).1, fun a ha => (yal a ha).1, hcells w' (hb.trans (yV.below hb.size (fun k hk => by omega))) (Nat.le_trans hz yV.size)⟩
      have hrd : W.RAt wr.drew b A E.length c E kb 0 := HRr.out.same (Below.refl _ _).drew
      obtain ⟨kk0, kk1, kk2, kk3, kk4, kk5, kk6, kk7⟩ := hcells wr.drew HBr.out.drew (Nat.le_refl _)
      obtain ⟨hc0, hc1, hc2, hc3, hc4, hc5, _⟩ := hcells wr HBr.out (Nat.le_refl _)
      have hk0 : (0 : Int) ≤ (k : Int) := by omega
      have hk1 : (k : Int) < (n0 : Int) := by omega
      have hbd : ∀ w' : World, Below w.heap.size w w' → w.heap.size ≤ w'.heap.size := fun w' h => h.size
      have hnb : ¬ wr.heap.size = b := by omega
      have hbb := HBr.out
      unfold W.Itm.agg at hread hlen1
      have HRD := Lib.hid hread
      have HLN := Lib.hid hlen1
      have HRd := Lib.hid hrd
      have HX := Lib.hid hx
      have HCE := Lib.hid hcells
      have HBD := Lib.hid hbd
      clear hread hlen1 hx hcells hri hrd hst hbd
      have HOK := Lib.hid (And.intro hok (And.intro hob hol))
      clear hok hob hol
      go_upto_region 7 with fail
      go_cut [5] (fun s5 wc => ∃ (P : Nat) (y : W.Itm), s5 = .pointer (some ⟨P, 0, none⟩) ∧ Got w wc P x y ∧ (∃ kb', W.RAt wc b A E.length c E kb' 0 ∧ E.drop kb' = W.encAll ((z0.map W.Itm.val).drop (k + 1))) ∧ Below w.heap.size w wc)
      case first =>
        go_region_held3 (fun w' => w'.cell? (ad.add (k * 6)) = some (.int .i64 x.k) ∧ w'.cell? ⟨(ad.add (k * 6)).block, (ad.add (k * 6)).off + 1, none⟩ = some (.int .u64 x.u) ∧ w'.cell? ⟨(ad.add (k * 6)).block, (ad.add (k * 6)).off + 2, none⟩ = some (.int .i64 x.i) ∧ w'.cell? ⟨(ad.add (k * 6)).block, (ad.add (k * 6)).off + 3, none⟩ = some (.slice x.bA x.bn x.bc) ∧ w'.cell? ⟨(ad.add (k * 6)).block, (ad.add (k * 6)).off + 4, none⟩ = some (.slice x.lA x.ln x.lc) ∧ w'.cell? ⟨(ad.add (k * 6)).block, (ad.add (k * 6)).off + 5, none⟩ = some (.int .i64 x.m) ∧ Below w.heap.size w w' ∧ wr.heap.size ≤ w'.heap.size) (first | (with_reducible exact ⟨kk0, kk1, kk2, kk3, kk4, kk5, kk6, kk7⟩) | (with_reducible exact ⟨by assumption, by assumption, by assumption, by assumption, by assumption, by assumption, by assumption, by assumption⟩) | (refine HCE.out _ ?_ ?_; (first | ((with_reducible refine Below.alloc ?_ ?_ _); (with_reducible assumption); (refine HBD.out _ ?_; with_reducible assumption)) | ((with_reducible refine Below.drew ?_); (with_reducible refine Below.alloc ?_ ?_ _); (with_reducible assumption); (refine HBD.out _ ?_; with_reducible assumption)) | ((with_reducible refine keep6 ?_ ?_); (first | (with_reducible assumption) | ((with_reducible refine Below.alloc ?_ ?_ _); (with_reducible assumption); (refine HBD.out _ ?_; with_reducible assumption)) | ((with_reducible refine Below.drew ?_); (with_reducible refine Below.alloc ?_ ?_ _); (with_reducible assumption); (refine HBD.out _ ?_; with_reducible assumption))); (refine HBD.out _ ?_; with_reducible assumption))); (simp <;> omega)))
          (first | (go_at_call 32; refine (HLN.out _ ?_ ?_).mono ?_; (first | (with_reducible assumption) | ((with_reducible refine Below.alloc ?_ ?_ _); (with_reducible assumption); (refine HBD.out _ ?_; with_reducible assumption)) | ((with_reducible refine Below.drew ?_); (with_reducible refine Below.alloc ?_ ?_ _); (with_reducible assumption); (refine HBD.out _ ?_; with_reducible assumption))); (first | (with_reducible assumption) | (simp <;> omega)); rintro e w5 ⟨rfl, hR5, hB5, z5, n5, d0, d1, d2, d3, d4, d5, hb5, hz5⟩; have HR5 := Lib.hid hR5; have HB5 := Lib.hid hB5; (first | (have hz5 : w5.heap[wr.heap.size]? = zitem := (hB5.block wr.heap.size (lt_alloc wr _)).trans (heap_alloc_new _ _); have HP5 := Lib.hid hz5; clear hz5) | skip); clear hR5 hB5) | (go_at_call 30; refine (HRD.out _ ?_ ?_ ?_).mono ?_; (first | (with_reducible exact HR5.out HRd.out) | (with_reducible exact HR5.out ((HRr.out.same ((Below.refl _ _).alloc (Nat.le_refl _) _)).same (Below.refl _ _).drew)) | (with_reducible exact (HR5.out HRd.out).same ((Below.refl _ _).alloc (Nat.le_refl _) _))); (first | (with_reducible assumption) | ((with_reducible refine Below.alloc ?_ ?_ _); (with_reducible assumption); (refine HBD.out _ ?_; with_reducible assumption)) | ((with_reducible refine Below.drew ?_); (with_reducible refine Below.alloc ?_ ?_ _); (with_reducible assumption); (refine HBD.out _ ?_; with_reducible assumption))); (first | (with_reducible assumption) | (simp <;> omega)); rintro e w6 ⟨y, rfl, hY, hR6, hV6, ya, yl, d0, d1, d2, d3, d4, d5, hb6, hz6⟩; have HY := Lib.hid hY; have HR6 := Lib.hid hR6; have HV6 := Lib.hid hV6; (first | (have hz6 : w6.heap[w5.heap.size]? = zitem := (hV6.block w5.heap.size (lt_alloc w5 _) n5).trans (heap_alloc_new _ _); have HP6 := Lib.hid hz6; obtain ⟨P0, P1, P2, P3, P4, P5, Q0, Q1, Q2, Q3, Q4, Q5⟩ := zcells hz6; clear hz6) | (have hz6 : w6.heap[wr.heap.size]? = zitem := (hV6.block wr.heap.size z5 hnb).trans HP5.out; have HP6 := Lib.hid hz6; obtain ⟨P0, P1, P2, P3, P4, P5, Q0, Q1, Q2, Q3, Q4, Q5⟩ := zcells hz6; clear hz6) | skip); have HYA := Lib.hid ya; have HYL := Lib.hid yl; clear hY hR6 hV6 ya yl))
        all_goals
          clear kk0 kk1 kk2 kk3 kk4 kk5 kk6 kk7 hc0 hc1 hc2 hc3 hc4 hc5
          go_wp2_with fail
          go_meet
          obtain ⟨kb6, h6, h6d⟩ := HR6.out
          have hY := HY.out
          have hinb := HRr.out.inb
          first
          | (have g := got_fin (w := w) (wr := wr) (P := w5.heap.size) (x := x) HP6.out hb6 (Nat.le_of_lt z5) (HBD.out _ hbb) hbr hinb hY (fun a ha _ e => by have := HYA.out a ha; simp at this; omega) (fun a ha _ e => by have := HYL.out a ha; simp at this; omega) h6
             exact ⟨w5.heap.size, y, rfl, g.1, ⟨kb6, g.2.1, h6d⟩, g.2.2⟩)
          | (have g := got_fin (w := w) (wr := wr) (P := wr.heap.size) (x := x) HP6.out hb6 (Nat.le_refl _) (HBD.out _ hbb) hbr hinb hY (fun a ha _ e => by have := HYA.out a ha; omega) (fun a ha _ e => by have := HYL.out a ha; omega) h6
             exact ⟨wr.heap.size, y, rfl, g.1, ⟨kb6, g.2.1, h6d⟩, g.2.2⟩)
          | (have hal := (Below.refl w6.heap.size w6).alloc (Nat.le_refl _) (.cells #[.int .i64 y.k, .int .u64 y.u, .int .i64 y.i, .slice y.bA y.bn y.bc, .slice y.lA y.ln y.lc, .int .i64 y.m] 53)
             exact ⟨w6.heap.size, y, rfl, ⟨heap_alloc_new w6 _, HBD.out _ hb6, hY.1, hY.2.1, hY.2.2.1, (hY.2.2.2.1.below hal).more hal.size, (hY.2.2.2.2.below hal).more hal.size⟩, ⟨kb6, h6.same hal, h6d⟩, hb6.trans (hal.mono (HBD.out _ hb6))⟩)
      case rest =>
        obtain ⟨P, y, rfl, hgot, ⟨kb', hRc, hdc⟩, hBc⟩ := hcut
        obtain ⟨ad', e', ha', hri⟩ := (HR.out.below hBc) k x HX.out
        cases e'
        have HRX := Lib.hid (And.intro hri.rb hri.rl)
        obtain ⟨i0, i1, i2, i3, i4, i5, _, _⟩ := hri
        rw [W.add_pos _ _ (by decide)] at i1 i2 i3 i4 i5
        obtain ⟨q0, q1, q2, q3, q4, q5⟩ := W.cells6 hgot.blk
        have hPl : P < wc.heap.size := W.blk_lt hgot.blk
        have hIl : (ad.add (k * 6)).block < wc.heap.size := by rw [H.add_block]; have := hBc.size; omega
        have HGot := Lib.hid hgot
        have HRc := Lib.hid hRc
        have HDc := Lib.hid hdc
        have HBc := Lib.hid hBc
        have hkey := got_key hgot.k hgot.v
        clear hgot hRc hdc hBc kk0 kk1 kk2 kk3 kk4 kk5 kk6 kk7 hc0 hc1 hc2 hc3 hc4 hc5 hbb hnb i5 q5 q0
        by_cases h0 : x.k = 0
        · have hu : ((y.u : Int) == (x.u : Int)) = true := by rw [hkey.1 h0]; simp
          rw [h0] at i0
          clear h0 hkey i2 i3 i4 q2 q3 q4 HRX hPl hIl
          go_wp2_with fail
          go_quiet (fail)
          go_wp2_with fail
          go_roundg (gk - 1)
          case measure => have := HG.out; omega
          case rel => exact ⟨k + 1, kb', by have := HG.out; omega, by go_num, HRc.out.drewN _, HDc.out, below_drewN HBc.out _⟩
        · have g0 : (x.k == 0) = false := by simpa using h0
          by_cases h1 : x.k = 1
          · have hu : (y.i == x.i) = true := by rw [hkey.2.1 h1]; simp
            rw [h1] at i0
            clear h0 h1 g0 hkey i1 i3 i4 q1 q3 q4 HRX hPl hIl
            go_wp2_with fail
            go_quiet (fail)
            go_wp2_with fail
            go_roundg (gk - 1)
            case measure => have := HG.out; omega
            case rel => exact ⟨k + 1, kb', by have := HG.out; omega, by go_num, HRc.out.drewN _, HDc.out, below_drewN HBc.out _⟩
          · have g1 : (x.k == 1) = false := by simpa using h1
            by_cases h2 : x.k = 2
            · have KEY := Lib.hid (hkey.2.2.1 h2)
              rw [h2] at i0
              clear h0 h1 h2 g0 g1 hkey i1 i2 i4 q1 q2 q4
              have hsb : Calls Try.prog 13 #[.slice y.bA y.bn y.bc, .slice x.bA x.bn x.bc] wc.drew fun r w' => r = .returned (.bool true) ∧ w'.cell? ⟨P, 3, none⟩ = some (.slice y.bA y.bn y.bc) ∧ w'.cell? ⟨(ad.add (k * 6)).block, (ad.add (k * 6)).off + 3, none⟩ = some (.slice x.bA x.bn x.bc) ∧ Below wc.heap.size wc w' :=
                (W.sameB_any y.bA x.bA y.bn x.bn y.bc x.bc y.bs x.bs wc.drew HGot.out.ok.bl HOK.out.1.bl (by rw [← HGot.out.ok.bl, KEY.out]; have := HOK.out.2; omega) (HGot.out.rb.below (Below.refl _ _).drew) ((HRX.out.1.below (Below.refl w.heap.size wc).drew).more HBc.out.size)).mono fun r w' ⟨hr, hB⟩ => by
                  have hB2 := (Below.refl wc.heap.size wc).drew.trans hB
                  exact ⟨by rw [hr, KEY.out, decide_eq_true rfl], (hB2.cell (p := ⟨P, 3, none⟩) hPl).trans q3, (hB2.cell (p := ⟨(ad.add (k * 6)).block, (ad.add (k * 6)).off + 3, none⟩) hIl).trans i3, hB2⟩
              have HSB := Lib.hid hsb
              have m0 : wc.drew.cell? ⟨P, 3, none⟩ = some (.slice y.bA y.bn y.bc) := q3
              have m1 : wc.drew.cell? ⟨(ad.add (k * 6)).block, (ad.add (k * 6)).off + 3, none⟩ = some (.slice x.bA x.bn x.bc) := i3
              clear hsb hPl hIl q3 i3
              go_wp2_with fail
              go_region_held3 (fun w' => w'.cell? ⟨P, 3, none⟩ = some (.slice y.bA y.bn y.bc) ∧ w'.cell? ⟨(ad.add (k * 6)).block, (ad.add (k * 6)).off + 3, none⟩ = some (.slice x.bA x.bn x.bc)) (first | (with_reducible exact ⟨m0, m1⟩) | (with_reducible exact ⟨by assumption, by assumption⟩) | go_keep)
                (first | (go_at_call 13; (with_reducible refine HSB.out.mono ?_); rintro e w7 ⟨rfl, s0, s1, hb7⟩; have HB7 := Lib.hid hb7; clear hb7) | fail)
              all_goals
                go_wp2_with fail
                go_roundg (gk - 1)
                case measure => have := HG.out; omega
                case rel => exact ⟨k + 1, kb', by have := HG.out; omega, by go_num, HRc.out.same HB7.out, HDc.out, HBc.out.trans (HB7.out.mono HBc.out.size)⟩
            · have g2 : (x.k == 2) = false := by simpa using h2
              have KEY := Lib.hid (hkey.2.2.2 h0 h1 h2)
              clear h0 h1 h2 hkey i1 i2 i3 q1 q2 q3
              have hsb : Calls Try.prog 29 #[.slice y.lA y.ln y.lc, .slice x.lA x.ln x.lc] wc.drew fun r w' => r = .returned (.bool true) ∧ w'.cell? ⟨P, 4, none⟩ = some (.slice y.lA y.ln y.lc) ∧ w'.cell? ⟨(ad.add (k * 6)).block, (ad.add (k * 6)).off + 4, none⟩ = some (.slice x.lA x.ln x.lc) ∧ Below wc.heap.size wc w' :=
                (W.sameI_any y.lA x.lA y.ln x.ln y.lc x.lc y.ls x.ls wc.drew HGot.out.ok.ll HOK.out.1.ll (by rw [← HGot.out.ok.ll, KEY.out]; have := HOK.out.2; omega) (HGot.out.rl.below (Below.refl _ _).drew) ((HRX.out.2.below (Below.refl w.heap.size wc).drew).more HBc.out.size)).mono fun r w' ⟨hr, hB⟩ => by
                  have hB2 := (Below.refl wc.heap.size wc).drew.trans hB
                  exact ⟨by rw [hr, KEY.out, decide_eq_true rfl], (hB2.cell (p := ⟨P, 4, none⟩) hPl).trans q4, (hB2.cell (p := ⟨(ad.add (k * 6)).block, (ad.add (k * 6)).off + 4, none⟩) hIl).trans i4, hB2⟩
              have HSB := Lib.hid hsb
              have m0 : wc.drew.cell? ⟨P, 4, none⟩ = some (.slice y.lA y.ln y.lc) := q4
              have m1 : wc.drew.cell? ⟨(ad.add (k * 6)).block, (ad.add (k * 6)).off + 4, none⟩ = some (.slice x.lA x.ln x.lc) := i4
              clear hsb hPl hIl q4 i4
              go_wp2_with fail
              go_region_held3 (fun w' => w'.cell? ⟨P, 4, none⟩ = some (.slice y.lA y.ln y.lc) ∧ w'.cell? ⟨(ad.add (k * 6)).block, (ad.add (k * 6)).off + 4, none⟩ = some (.slice x.lA x.ln x.lc)) (first | (with_reducible exact ⟨m0, m1⟩) | (with_reducible exact ⟨by assumption, by assumption⟩) | go_keep)
                (first | (go_at_call 29; (with_reducible refine HSB.out.mono ?_); rintro e w7 ⟨rfl, s0, s1, hb7⟩; have HB7 := Lib.hid hb7; clear hb7) | fail)
              all_goals
                go_wp2_with fail
                go_roundg (gk - 1)
                case measure => have := HG.out; omega
                case rel => exact ⟨k + 1, kb', by have := HG.out; omega, by go_num, HRc.out.same HB7.out, HDc.out, HBc.out.trans (HB7.out.mono HBc.out.size)⟩
    · have hn : k = n0 := by omega
      have hend := W.end_rd HRr.out (s := ([], 0)) ⟨rfl, fun _ => by rw [HD.out, List.drop_of_length_le (by rw [List.length_map, HL.out]; omega)]; rfl⟩
      rw [show W.endOf (([], 0) : W.St) = 0 from rfl] at hend
      clear hn
      go_wp2_with fail
      refine hend.mono ?_
      clear hend
      rintro r w5 ⟨rfl, m5, rfl⟩
      have hlv := W.lives_any (Go.World.drewN wr m5)
      go_wp2_with fail
      refine hlv.mono ?_
      clear hlv
      rintro r w7 ⟨rfl, hb7⟩
      have HB7 := Lib.hid ((below_drewN HBr.out m5).trans (hb7.mono HBr.out.size))
      clear hb7
      go_wp2_with fail
      go_ret
      exact ⟨rfl, HB7.out⟩

set_option maxRecDepth 100000 in
theorem lifted (os : Os) (started : os.Started) (H0 : Type) (enc : TypeId × Value → H0) (F0 : Stop.Interp) :
    ReturnsInHanded {} Try.checked os 7 .any ((Rows.OpenSpec.upto Rows.wireRoundSpec).pre6 enc Try.prog Try.f7 Rows.wireRoundUptoRow.domain false) (((Rows.OpenSpec.upto Rows.wireRoundSpec).at F0).post enc Try.prog Try.f7 false true false false) := by
  refine returnsInHanded_of_cond_sized (C := Try.checked) (s := (Rows.OpenSpec.upto Rows.wireRoundSpec)) (k := Rows.uptoSmall) rfl W.own started (by kernel_rfl) Try.func7
    (OpenSpec.witness (enc := enc) (C := Try.checked) (s := (Rows.OpenSpec.upto Rows.wireRoundSpec)) (k := Rows.uptoSmall) rfl false ⟨#[], #[.slice none 0 0], []⟩ 8 (by kernel_rfl) (by kernel_rfl) (by kernel_rfl)
      (x := ([.nil], [], [])) (by kernel_rfl) (by kernel_rfl) (by kernel_rfl)) ?_
  intro W base args ds gs before hval0 hW hcnd hk0 hsz0 _
  have hval : ∀ (j : Nat) t v, Try.f7.params[j]? = some t → args[j]? = some v → Value.okWide Try.prog W .any base t v := hval0
  have hW' := hW
  obtain ⟨p, q, hA0, hV, rfl, hfz, hnd⟩ := hW
  have hA : DataW.TrodAll enc Try.prog W 0 (fun _ => true) true Try.f7.params.toList args.toList ds p := hA0
  rw [Try.params7] at hA hval
  obtain ⟨v0, vs0, d0, ds0, p0, q0, hargs, rfl, rfl, h0, r0⟩ := trodAll_cons hA
  obtain ⟨rfl, rfl, rfl⟩ := trodAll_nil r0
  obtain rfl : args = #[v0] := by cases args; simp_all
  obtain ⟨rfl, rfl⟩ := trodVars_none hV
  obtain ⟨a0, n0, c0, rfl⟩ := okWide_slice Try.underlying22 (hval 0 22 v0 rfl rfl)
  have k0 := h0
  have lt0 : ∀ x ∈ p0, x.block < W.heap.size := by obtain ⟨m, hm⟩ := k0; exact DataW.trod_lt m _ _ _ hm
  obtain ⟨z0, l0, cp0, cq0, nz0, rd0, wf0, bj0⟩ := Go.Proofs.Ytdfokmhpnniphaa.W.open_its h0
  clear hA0 hval0
  have hk := of_decide_eq_true hk0
  simp only [List.append_nil, Rows.uptoBulkAll] at hk
  have bk0 : (z0.map Go.Proofs.Ytdfokmhpnniphaa.W.Itm.w).sum ≤ 1048576 := by omega
  refine (walk a0 n0 c0 z0 W l0 ⟨cp0, cq0⟩ nz0 rd0 wf0 bk0).mono fun e W' ⟨he, bel⟩ => ?_
  subst he
  exact ⟨_, rfl, _, _, _, [], _, [], hW', trodAll_mk1 (shut_bool Try.underlying4 _), (trodAll_cons_mk (Below.trod Go.Proofs.Ytdfokmhpnniphaa.W.laidOut (by kernel_rfl) (of_decide_eq_true (by kernel_rfl)) k0 bel lt0) trodAll_mk0), rfl, bel.frame _, fun h => by cases h⟩

/-- ████ THE STATEMENT ████ -/
theorem proved : Rows.WireRoundUptoSaid :=
  OpenClaim.holds_of_cond 7 Try.f7 rfl rfl rfl rfl rfl rfl rfl ⟨rfl, rfl, rfl, rfl, rfl⟩ rfl rfl rfl rfl rfl (by kernel_rfl) Try.func7 (by kernel_rfl)
    (of_decide_eq_true (by kernel_rfl)) (by unfold Func.isWrapper; first | (rw [if_pos (by decide +kernel)]; kernel_rfl) | (rw [if_neg (by decide +kernel)]; exact ⟨rfl, rfl⟩))
    (fun os started H0 enc _ F0 => by rw [OpenClaim.pre_of_none' rfl]; exact lifted os started H0 enc F0)
end Go.Proofs.Ytdfokmhpnniphaa.wireRound
