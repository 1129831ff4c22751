/-
  For every byte slice and every list of items that hold together at most 1048576 values, WireCanonical returns true: if End returns OK after the reads, writing the results yields exactly these bytes.
-/
import Derived.Test.YtdfokmhpnniphaaWLives
import Derived.Test.YtdfokmhpnniphaaWRead
import Derived.Test.YtdfokmhpnniphaaWWritten
import Derived.Deep.RegionHeld3
import Derived.Deep.DeepCutAuto
import Derived.Deep.LoopGhost
import Derived.Deep.AppendLies
import Derived.Deep.RegionLaw
import Derived.Deep.CutBlock
namespace Go.Proofs.Ytdfokmhpnniphaa.wireCanonical
open Go.ChangeShapes Go.WideShapes Go.ChangeAt Go.RowKit
open Go.ChangeMaps (open_string shut_string)
set_option linter.unusedVariables false
def cells (y : W.Itm) : List Value := [.int .i64 y.k, .int .u64 y.u, .int .i64 y.i, .slice y.bA y.bn y.bc, .slice y.lA y.ln y.lc, .int .i64 y.m]
def flat (ys : List W.Itm) : List Value := ys.flatMap cells
theorem flat_len (ys : List W.Itm) : (flat ys).length = ys.length * 6 := by
  induction ys with
  | nil => rfl
  | cons y ys ih =>
    show (cells y ++ flat ys).length = _
    rw [List.length_append, ih, List.length_cons]
    show 6 + _ = _
    omega
theorem flat_snoc (ys : List W.Itm) (y : W.Itm) : flat (ys ++ [y]) = flat ys ++ cells y := by simp [flat]
theorem flat_get : ∀ (ys : List W.Itm) (j : Nat) (y : W.Itm) (c : Nat), ys[j]? = some y → c < 6 → (flat ys)[j * 6 + c]? = (cells y)[c]?
  | [], j, y, c, h, _ => by simp at h
  | y0 :: ys, 0, y, c, h, hc => by
    obtain rfl : y0 = y := by simpa using h
    show (cells y0 ++ flat ys)[0 * 6 + c]? = _
    rw [List.getElem?_append_left (by show 0 * 6 + c < 6; omega), show 0 * 6 + c = c from by omega]
  | y0 :: ys, j + 1, y, c, h, hc => by
    have h' : ys[j]? = some y := by simpa using h
    show (cells y0 ++ flat ys)[(j + 1) * 6 + c]? = _
    rw [List.getElem?_append_right (by show 6 ≤ (j + 1) * 6 + c; omega), show (j + 1) * 6 + c - (cells y0).length = j * 6 + c from by show (j + 1) * 6 + c - 6 = _; omega]
    exact flat_get ys j y c h' hc

/-- What is known of an item read, beside the row v that holds it. -/
structure Kept (B : Nat) (w : World) (v : Value) (y : W.Itm) : Prop where
  ok : y.Ok
  rb : H.RdI w w.heap.size .u8 y.bA y.bs
  rl : H.RdI w w.heap.size .i64 y.lA y.ls
  hb : ∀ a, y.bA = some a → B ≤ a.block ∧ v.ownBlock ≠ some a.block ∧ a.block < w.heap.size
  hl : ∀ a, y.lA = some a → B ≤ a.block ∧ v.ownBlock ≠ some a.block ∧ a.block < w.heap.size
  zb : y.k ≠ 2 → y.bs = []
  zl : (y.k = 0 ∨ y.k = 1 ∨ y.k = 2) → y.ls = []
structure CInv (B : Nat) (w : World) (v : Value) (ys : List W.Itm) : Prop where
  own : w.ownsRow B 53 6 v ys.length (flat ys)
  each : ∀ y ∈ ys, Kept B w v y

theorem own_base {w : World} {B n size : Nat} {e : TypeId} {v : Value} {xs : List Value} (h : w.ownsRow B e size v n xs) : ∀ j, v.ownBlock = some j → B ≤ j ∧ j < w.heap.size := fun j hj => by
  rcases h.2 with ⟨rfl, _⟩ | ⟨g, cap, cur, rfl, hg, hh, _⟩
  · cases hj
  · obtain rfl : g = j := by simpa [Value.ownBlock] using hj
    exact ⟨hg, W.blk_lt hh⟩
theorem own_keep {w w' : World} {B n size : Nat} {e : TypeId} {v : Value} {xs : List Value} {F : Nat → Prop} (h : w.ownsRow B e size v n xs) (hs : W.Save F w w') (hd : ∀ j, v.ownBlock = some j → ¬ F j) : w'.ownsRow B e size v n xs := by
  refine ⟨h.1, ?_⟩
  rcases h.2 with h2 | ⟨g, cap, cur, rfl, hg, hh, hr⟩
  · exact .inl h2
  · exact .inr ⟨g, cap, cur, rfl, hg, (hs.block g (W.blk_lt hh) (hd g rfl)).trans hh, hr⟩
theorem save_grown {w w' : World} {o : Option Nat} (h : w.grownBy w' o) : W.Save (fun j => o = some j) w w' := ⟨h.os, h.tape, h.output, h.size, fun k hk hf => h.block k hk (fun e => hf e.symm)⟩

theorem CInv.start (B : Nat) (w : World) : CInv B w (.slice none 0 0) [] := ⟨World.ownsRow_nil _ _ _ _, fun y hy => by cases hy⟩
theorem CInv.step {B b g cap HH : Nat} {wr w6 w9 : World} {v : Value} {ys : List W.Itm} {y : W.Itm} (h : CInv B wr v ys) (hb : b < B) (hs : W.Save (fun j => j = b ∨ v.ownBlock = some j) wr w9) (hs6 : W.Save (fun j => v.ownBlock = some j) w6 w9) (h6 : wr.heap.size ≤ w6.heap.size) (hB : B ≤ wr.heap.size)
    (hown : w9.ownsRow B 53 6 (.slice (some ⟨g, 0, none⟩) (ys.length + 1) cap) (ys.length + 1) (flat ys ++ cells y)) (hat : v.ownBlock = some g ∨ g = HH) (hH : w6.heap.size ≤ HH)
    (hok : y.Ok) (rb : H.RdI w6 w6.heap.size .u8 y.bA y.bs) (rl : H.RdI w6 w6.heap.size .i64 y.lA y.ls) (yb : ∀ a, y.bA = some a → wr.heap.size ≤ a.block ∧ a.block < w6.heap.size) (yl : ∀ a, y.lA = some a → wr.heap.size ≤ a.block ∧ a.block < w6.heap.size) (zb : y.k ≠ 2 → y.bs = []) (zl : (y.k = 0 ∨ y.k = 1 ∨ y.k = 2) → y.ls = []) :
    CInv B w9 (.slice (some ⟨g, 0, none⟩) (ys.length + 1) cap) (ys ++ [y]) := by
  have hvo := own_base h.own
  have hz9 := hs6.size
  have e9 : (Value.slice (some (⟨g, 0, none⟩ : Addr)) (ys.length + 1) cap).ownBlock = some g := rfl
  refine ⟨?_, fun z hz => ?_⟩
  · rw [flat_snoc, List.length_append]
    exact hown
  · rcases List.mem_append.1 hz with hz | hz
    · have k := h.each z hz
      refine ⟨k.ok, (hs.rdi k.rb (Nat.le_refl _) fun a ha hf => ?_).more hs.size, (hs.rdi k.rl (Nat.le_refl _) fun a ha hf => ?_).more hs.size, fun a ha => ?_, fun a ha => ?_, k.zb, k.zl⟩
      · obtain ⟨k1, k2, k3⟩ := k.hb a ha
        rcases hf with hf | hf
        · omega
        · exact k2 hf
      · obtain ⟨k1, k2, k3⟩ := k.hl a ha
        rcases hf with hf | hf
        · omega
        · exact k2 hf
      · obtain ⟨k1, k2, k3⟩ := k.hb a ha
        refine ⟨k1, fun e => ?_, by omega⟩
        rw [e9] at e
        injection e with e
        rcases hat with h2 | h2
        · exact k2 (by rw [h2, e])
        · omega
      · obtain ⟨k1, k2, k3⟩ := k.hl a ha
        refine ⟨k1, fun e => ?_, by omega⟩
        rw [e9] at e
        injection e with e
        rcases hat with h2 | h2
        · exact k2 (by rw [h2, e])
        · omega
    · obtain rfl : z = y := by simpa using hz
      refine ⟨hok, (hs6.rdi rb (Nat.le_refl _) fun a ha hf => ?_).more hs6.size, (hs6.rdi rl (Nat.le_refl _) fun a ha hf => ?_).more hs6.size, fun a ha => ?_, fun a ha => ?_, zb, zl⟩
      · have := hvo _ hf; have := yb a ha; omega
      · have := hvo _ hf; have := yl a ha; omega
      · have h3 := yb a ha
        refine ⟨by omega, fun e => ?_, by omega⟩
        rw [e9] at e
        injection e with e
        rcases hat with h2 | h2
        · have := hvo _ h2; omega
        · omega
      · have h3 := yl a ha
        refine ⟨by omega, fun e => ?_, by omega⟩
        rw [e9] at e
        injection e with e
        rcases hat with h2 | h2
        · have := hvo _ h2; omega
        · omega

theorem CInv.rdit {B n c : Nat} {w : World} {A : Option Addr} {ys : List W.Itm} (h : CInv B w (.slice A n c) ys) : W.RdIt w w.heap.size A ys := fun j y hj => by
  have hlt : j < ys.length := (List.getElem?_eq_some_iff.1 hj).1
  have k := h.each y (List.mem_of_getElem? hj)
  rcases h.own.2 with ⟨_, h0⟩ | ⟨g, cap, cur, hv, hg, hh, _⟩
  · omega
  · injection hv with hA hn hc
    subst hA hn hc
    have hc := fun c (hc : c < 6) => (h.own.cellAt (j * 6 + c) (by omega)).trans (flat_get ys j y c hj hc)
    have a0 : (⟨g, 0, none⟩ : Addr).add (j * 6) = ⟨g, j * 6, none⟩ := by unfold Addr.add; split <;> simp_all
    have a1 : ∀ c, (⟨g, j * 6, none⟩ : Addr).add c = ⟨g, j * 6 + c, none⟩ := fun c => by unfold Addr.add; split <;> simp_all
    refine ⟨⟨g, 0, none⟩, rfl, W.blk_lt hh, ?_⟩
    rw [a0]
    exact ⟨by have := hc 0 (by decide); simpa [cells] using this, by rw [a1]; have := hc 1 (by decide); simpa [cells] using this, by rw [a1]; have := hc 2 (by decide); simpa [cells] using this, by rw [a1]; have := hc 3 (by decide); simpa [cells] using this, by rw [a1]; have := hc 4 (by decide); simpa [cells] using this, by rw [a1]; have := hc 5 (by decide); simpa [cells] using this, k.rb, k.rl⟩

def vm (x : W.Itm) : W.Val × Int := (x.val, x.m)
theorem rSeq_snoc (v : W.Val) (m : Int) : ∀ (l : List (W.Val × Int)) (s : W.St), W.rSeq s (l ++ [(v, m)]) = ((W.rV (W.rSeq s l).1 m v).1, (W.rSeq s l).2 ++ [(W.rV (W.rSeq s l).1 m v).2])
  | [], s => rfl
  | (v', m') :: l, s => by
    show W.rSeq s ((v', m') :: (l ++ [(v, m)])) = _
    rw [W.rSeq, rSeq_snoc v m l]
    rfl
theorem rSeq_take {xs : List W.Itm} {k : Nat} {x : W.Itm} (hx : xs[k]? = some x) (s : W.St) : W.rSeq s ((xs.take (k + 1)).map vm) = ((W.rV (W.rSeq s ((xs.take k).map vm)).1 x.m x.val).1, (W.rSeq s ((xs.take k).map vm)).2 ++ [(W.rV (W.rSeq s ((xs.take k).map vm)).1 x.m x.val).2]) := by
  rw [List.take_add_one, hx, List.map_append]
  exact rSeq_snoc _ _ _ _
theorem encL_ge : ∀ (zs : List Int), zs.length ≤ (W.encL zs).length
  | [] => Nat.le_refl _
  | z :: zs => by
    show zs.length + 1 ≤ (W.encU (W.zig z) ++ W.encL zs).length
    have := encL_ge zs
    have := W.encU_pos (W.zig z)
    rw [List.length_append]
    omega
theorem enc_ge {y : W.Itm} (zb : y.k ≠ 2 → y.bs = []) (zl : (y.k = 0 ∨ y.k = 1 ∨ y.k = 2) → y.ls = []) : y.bs.length ≤ (W.enc y.val).length ∧ y.ls.length ≤ (W.enc y.val).length := by
  by_cases h2 : y.k = 2
  · have e : y.val = .b y.bs := by unfold W.Itm.val; rw [if_neg (by omega), if_neg (by omega), if_pos h2]
    rw [e, zl (.inr (.inr h2))]
    simp only [W.enc, List.length_append, List.length_nil]
    omega
  · rw [zb h2]
    by_cases h0 : y.k = 0
    · rw [zl (.inl h0)]; exact ⟨Nat.zero_le _, Nat.zero_le _⟩
    · by_cases h1 : y.k = 1
      · rw [zl (.inr (.inl h1))]; exact ⟨Nat.zero_le _, Nat.zero_le _⟩
      · have e : y.val = .l y.ls := by unfold W.Itm.val; rw [if_neg h0, if_neg h1, if_neg h2]
        rw [e]
        have := encL_ge y.ls
        simp only [W.enc, List.length_append, List.length_nil]
        omega
theorem enc_mem : ∀ {ys : List W.Itm} {y : W.Itm}, y ∈ ys → (W.enc y.val).length ≤ (W.encAll (ys.map W.Itm.val)).length
  | y0 :: ys, y, h => by
    show _ ≤ (W.enc y0.val ++ W.encAll (ys.map W.Itm.val)).length
    rw [List.length_append]
    rcases List.mem_cons.1 h with rfl | h
    · omega
    · have := enc_mem h; omega
theorem encAll_ge : ∀ (ys : List W.Itm), ys.length ≤ (W.encAll (ys.map W.Itm.val)).length
  | [] => Nat.le_refl _
  | y :: ys => by
    show ys.length + 1 ≤ (W.enc y.val ++ W.encAll (ys.map W.Itm.val)).length
    have := encAll_ge ys
    have := W.enc_pos y.val
    rw [List.length_append]
    omega
/-- The rest of ReadPost, the item given. -/
def Rest (w : World) (b : Nat) (A : Option Addr) (n c : Nat) (bs : List Int) (x : W.Itm) (R : W.St × W.Val) (y : W.Itm) (w' : World) : Prop :=
  y.Ok ∧ y.k = x.k ∧ y.val = R.2 ∧ y.m = 0 ∧ (x.k ≠ 0 → y.u = 0) ∧ (x.k ≠ 1 → y.i = 0) ∧ (x.k ≠ 2 → y.bs = [] ∧ y.bA = none) ∧ ((x.k = 0 ∨ x.k = 1 ∨ x.k = 2) → y.ls = [] ∧ y.lA = none) ∧
    H.RdI w' w'.heap.size .u8 y.bA y.bs ∧ H.RdI w' w'.heap.size .i64 y.lA y.ls ∧ (∀ a, y.bA = some a → w.heap.size ≤ a.block ∧ a.block < w'.heap.size) ∧ (∀ a, y.lA = some a → w.heap.size ≤ a.block ∧ a.block < w'.heap.size) ∧
    ∃ k' e', W.RAt w' b A n c bs k' e' ∧ W.StOf bs k' e' R.1 ∧ W.Save (· = b) w w'
theorem post_save {w w' : World} {b n c : Nat} {A : Option Addr} {bs : List Int} {x y : W.Itm} {R : W.St × W.Val} (h : Rest w b A n c bs x R y w') : W.Save (· = b) w w' := by
  obtain ⟨_, _, _, _, _, _, _, _, _, _, _, _, k', e', _, _, hv⟩ := h
  exact hv
theorem infoT : (Try.prog.info? 53).map (fun i => (i.zero, i.size, i.bytes)) = some (some (.agg #[.int .i64 0, .int .u64 0, .int .i64 0, .slice none 0 0, .slice none 0 0, .int .i64 0]), 6, 80) := by kernel_rfl

set_option maxRecDepth 100000 in
set_option maxHeartbeats 1000000 in
theorem walk (a0 : Option Addr) (n0 c0 : Nat) (z0 : List Int) (a1 : Option Addr) (n1 c1 : Nat) (z1 : List W.Itm) (w : World) (l0 : z0.length = n0) (cp0 : n0 ≤ c0 ∧ c0 ≤ maxLen) (nz0 : a0 = none → c0 = 0) (rd0 : H.RdI w w.heap.size .u8 a0 z0) (wf0 : ∀ n ∈ z0, (Lit.int .u8 n).wf = true) (bk0 : z0.length ≤ 1048575) (l1 : z1.length = n1) (cp1 : n1 ≤ c1 ∧ c1 ≤ maxLen) (nz1 : a1 = none → c1 = 0) (rd1 : W.RdIt w w.heap.size a1 z1) (wf1 : ∀ x ∈ z1, x.Ok) (bk1 : (z1.map Go.Proofs.Ytdfokmhpnniphaa.W.Itm.w).sum ≤ 1048576) :
    Calls Try.prog 9 #[.slice a0 n0 c0, .slice a1 n1 c1] w fun e w' => e = .returned (.bool true) ∧ Below w.heap.size w w' := by
  have hn : n0 ≤ 1048575 := by omega
  have hb8 := H.u8_byt wf0
  have hnew := W.new_any a0 n0 c0 z0 w l0 (by omega) nz0 hb8 rd0
  have hsm := (W.sum_len z1)
  have hn1 : n1 ≤ 149796 := by omega
  obtain ⟨i0, hi, hz0, hz1, hz2⟩ := info_parts infoT
  have HR0 := Lib.hid rd0
  have HL0 := Lib.hid l0
  have HB8 := Lib.hid hb8
  have HR := Lib.hid rd1
  have HL := Lib.hid l1
  have HK := Lib.hid wf1
  have hcm : c1 ≤ 9223372036854775807 := cp1.2
  have hcn := cp1.1
  clear rd0 l0 wf0 bk0 cp0 nz0 hb8 rd1 l1 wf1 nz1 bk1 cp1 hsm
  go_enter Try.func9, Try.ntmps9
  go_wp2_with fail
  refine hnew.mono ?_
  clear hnew
  rintro r w1 ⟨b, A, c, rfl, hr1, hb1, hA1, hB1⟩
  have hbR : b < w1.heap.size := W.blk_lt hr1.blk
  have hw1 : w.heap.size ≤ w1.heap.size := hB1.size
  have HR1 := Lib.hid hr1
  have HB1 := Lib.hid hB1
  clear hr1 hB1 hA1
  go_wp2_with fail
  go_loopg [6, 7] n1 (fun g v i wr => ∃ (k kb : Nat) (e : Int) (ys : List W.Itm), k + g = n1 ∧ i = .int .i64 k ∧ W.RAt wr b A n0 c z0 kb e ∧ W.StOf z0 kb e (W.rSeq (z0, 0) ((z1.take k).map vm)).1 ∧ ys.map W.Itm.val = (W.rSeq (z0, 0) ((z1.take k).map vm)).2 ∧ ys.length = k ∧ CInv w1.heap.size wr v ys ∧ Below w.heap.size w wr ∧ w1.heap.size ≤ wr.heap.size)
  case atStart => exact ⟨0, 0, 0, [], Nat.zero_add _, rfl, HR1.out, ⟨rfl, fun _ => rfl⟩, rfl, rfl, CInv.start _ _, HB1.out, Nat.le_refl _⟩
  case round =>
    obtain ⟨k, kb, e, ys, hg, rfl, hr, hst, hys, hyl, hci, hB, hw1r⟩ := hrel
    obtain ⟨v, hv6⟩ : ∃ v, v = u6 := ⟨_, rfl⟩
    subst hv6
    have HRr := Lib.hid hr
    have HST := Lib.hid hst
    have HYS := Lib.hid hys
    have HYL := Lib.hid hyl
    have HCI := Lib.hid hci
    have HBr := Lib.hid hB
    have HG := Lib.hid hg
    have hk : k ≤ n1 := by omega
    clear hr hst hys hyl hci hB hg
    by_cases hlt : k < n1
    · obtain ⟨x, hx⟩ : ∃ x, z1[k]? = some x := ⟨_, List.getElem?_eq_getElem (by rw [HL.out]; exact hlt)⟩
      obtain ⟨ad, rfl, ha, hri⟩ := (HR.out.below HBr.out.drew) k x hx
      have hok := HK.out x (List.mem_of_getElem? hx)
      obtain ⟨kk0, kk1, kk2, kk3, kk4, kk5, _, _⟩ := hri
      rw [W.add_pos _ _ (by decide)] at kk1 kk2 kk3 kk4 kk5
      obtain ⟨s, hs⟩ : ∃ s, (W.rSeq (z0, 0) ((z1.take k).map vm)).1 = s := ⟨_, rfl⟩
      have hst := HST.out
      rw [hs] at hst
      have hread := W.read_any (s := s) x x.m hok.m hok (fun h0 => by have h1 := hst.2 (by rw [← hst.1, h0]); rw [h1, List.length_drop, HL0.out]; omega) (HRr.out.same (Below.refl _ wr).drew) hst
      unfold W.Itm.agg at hread
      have HRD := Lib.hid hread
      have HX := Lib.hid hx
      have HS := Lib.hid hs
      have hk0 : (0 : Int) ≤ (k : Int) := by omega
      have hk1 : (k : Int) < (n1 : Int) := by omega
      clear hread hx hs hst hok
      go_upto_block 1 with fail
      go_cut [6] (fun v' wx => ∃ (kb' : Nat) (e' : Int) (y : W.Itm), W.RAt wx b A n0 c z0 kb' e' ∧ W.StOf z0 kb' e' (W.rV s x.m x.val).1 ∧ y.val = (W.rV s x.m x.val).2 ∧ CInv w1.heap.size wx v' (ys ++ [y]) ∧ Below w.heap.size w wx ∧ w1.heap.size ≤ wx.heap.size)
      case first =>
        go_upto_region 8 with fail
        go_region_law (first | (refine step_append_lies _ rfl (.tmp 18) (.tmp 30) 22 rfl w1.heap.size 53 i0 _ 6 80 Try.underlying22 hi hz0 hz1 hz2 rfl (by decide) v ys.length (flat ys) rfl (HOW6.out.alloc _) ⟨w6.heap.size, 0, none⟩ 1 1 (cells y) rfl rfl (World.news_of_block (heap_alloc_new w6 _)) (by simp [cells, Value.oneCell']) (by decide) (by unfold maxLen; omega) (by omega) (by simp; omega) _ rfl ?_; intro g cap w9 hown' hgrow hat hlt; have HO9 := Lib.hid hown'; have HG9 := Lib.hid hgrow; have HAT := Lib.hid hat; clear hown' hgrow hat) | (go_simp; go_at_call 30; refine HRD.out.mono ?_; rintro r w6 hpost; obtain ⟨y, rfl, hq⟩ := hpost; unfold W.Itm.agg; have HQ := Lib.hid hq; have HSV := Lib.hid ((W.Save.refl (· = b) wr).drew.trans (post_save hq)); have HOW6 := Lib.hid (own_keep HCI.out.own HSV.out (fun j hj => by { have := own_base HCI.out.own j hj; omega })); have hz6 : wr.heap.size ≤ w6.heap.size := HSV.out.size; have hyl6 : ys.length ≤ 149796 := by { have := HYL.out; omega }; clear hq))
        all_goals
          go_wp2_with fail
          go_meet
          obtain ⟨hok, hyk, hyv, hym, hyu, hyi, hyb, hyl', hrb, hrl, hab, hal, k', e', hR, hS, hV⟩ := HQ.out
          have hal1 : W.Save (fun j => v.ownBlock = some j) w6 (w6.alloc (.cells #[.int .i64 y.k, .int .u64 y.u, .int .i64 y.i, .slice y.bA y.bn y.bc, .slice y.lA y.ln y.lc, .int .i64 y.m] 53)) := (W.Save.refl _ w6).alloc _
          have hs6 : W.Save (fun j => v.ownBlock = some j) w6 w9 := hal1.trans (save_grown HG9.out)
          have hs : W.Save (fun j => j = b ∨ v.ownBlock = some j) wr w9 := (HSV.out.more fun j h => .inl h).trans (hs6.more fun j h => .inr h)
          have hob := own_base HCI.out.own
          have hci := HCI.out.step hbR hs hs6 hz6 hw1r HO9.out HAT.out (by simp) hok hrb hrl hab hal (fun h => (hyb (by rw [← hyk]; exact h)).1) (fun h => (hyl' (by rw [← hyk]; exact h)).1)
          exact ⟨k', e', y, hR.keep hs6.size (hs6.block b (W.blk_lt hR.blk) (fun e => by have := hob b e; omega)) (fun a ha => hs6.block a.block (hR.inb a ha) (fun e => by have := hob _ e; have := HR1.out.inb a ha; omega)), hS, hyv, hci, HBr.out.trans (hs.below HBr.out.size (fun j hj => by rcases hj with h | h; (omega); (have := hob j h; omega))), by have := hs.size; omega⟩
      case rest =>
        obtain ⟨kb', e', y, hR, hS, hyv, hci, hBx, hwx⟩ := hcut
        have HR6 := Lib.hid hR
        have HS6 := Lib.hid hS
        have HYV := Lib.hid hyv
        have HCI6 := Lib.hid hci
        have HB6 := Lib.hid hBx
        clear hR hS hyv hci hBx kk0 kk1 kk2 kk3 kk4 kk5
        go_wp2_with fail
        go_roundg (gk - 1)
        case measure => have := HG.out; omega
        case rel => exact ⟨k + 1, kb', e', ys ++ [y], by have := HG.out; omega, by go_num, HR6.out, by rw [rSeq_take HX.out, HS.out]; exact HS6.out, by rw [List.map_append, HYS.out, rSeq_take HX.out, HS.out, List.map_cons, HYV.out]; rfl, by rw [List.length_append, HYL.out]; rfl, HCI6.out, HB6.out, hwx⟩
    · have ht : z1.take k = z1 := List.take_of_length_le (by rw [HL.out]; omega)
      have hst := HST.out
      have hys := HYS.out
      rw [ht] at hst hys
      have hend := W.end_rd HRr.out hst
      have hE := W.rSeq_end (z1.map vm) z0 HB8.out
      rw [← hys] at hE
      generalize W.endOf (W.rSeq (z0, 0) (z1.map vm)).1 = en at hend hE
      have HE := Lib.hid hE
      clear hst hys hE ht
      by_cases h0 : en = 0
      · subst h0
        have HZ := Lib.hid (HE.out rfl)
        clear HE
        go_wp2_with fail
        refine hend.mono ?_
        clear hend
        rintro r w5 ⟨rfl, m5, rfl⟩
        obtain ⟨A6, q6, rfl⟩ : ∃ A6 q6, v = .slice A6 ys.length q6 := by
          rcases HCI.out.own.2 with ⟨h, h0⟩ | ⟨g, cap, _, h, _⟩
          · rw [h0]; exact ⟨_, _, h⟩
          · exact ⟨_, _, h⟩
        have hz := HZ.out
        have hlen := congrArg List.length hz
        have hl0 := HL0.out
        have hge := encAll_ge ys
        have hmem : ∀ x ∈ ys, x.Ok ∧ x.bs.length ≤ 1048576 ∧ x.ls.length ≤ 1048576 := fun x hx => by
          have k := HCI.out.each x hx
          have h1 := enc_ge k.zb k.zl
          have h2 := enc_mem hx
          exact ⟨k.ok, by omega, by omega⟩
        have hwr := W.written_any A6 ys.length q6 ys (Go.World.drewN wr m5) rfl (by omega) (HCI.out.rdit.below (below_drewN (Below.refl _ wr) m5)) (fun x hx => ⟨(hmem x hx).1, by have := (hmem x hx).2.1; omega, (hmem x hx).2.2⟩) (by omega) (fun x hx => by have := (hmem x hx).2.1; omega)
        rw [hz] at hwr
        have HB5 := Lib.hid (below_drewN HBr.out m5)
        clear hz hlen hl0 hge hmem
        go_wp2_with fail
        refine hwr.mono ?_
        clear hwr
        rintro r w6 ⟨v6, rfl, ho6, hB6⟩
        obtain ⟨A7, q7, rfl⟩ := H.own_shape ho6
        have hB06 := HB5.out.trans (hB6.mono HB5.out.size)
        have h3 := W.sameB_any A7 a0 z0.length n0 q7 c0 z0 z0 w6 rfl HL0.out (by rw [HL0.out]; omega) (H.own_RdI ho6) ((HR0.out.below hB06).more hB06.size)
        rw [decide_eq_true rfl] at h3
        have HB6 := Lib.hid hB06
        clear ho6 hB6 hB06 HB5
        go_wp2_with fail
        refine h3.mono ?_
        clear h3
        rintro r w7 ⟨rfl, hB7⟩
        have hlv := W.lives_any w7
        have HB7 := Lib.hid (HB6.out.trans (hB7.mono HB6.out.size))
        clear hB7
        go_wp2_with fail
        refine hlv.mono ?_
        clear hlv
        rintro r w8 ⟨rfl, hB8⟩
        have HB8' := Lib.hid (HB7.out.trans (hB8.mono HB7.out.size))
        clear hB8
        go_wp2_with fail
        go_ret
        exact ⟨rfl, HB8'.out⟩
      · have g0 : (en != 0) = true := by simpa using h0
        have g1 : (en == 0) = false := by simpa using h0
        clear h0
        go_wp2_with fail
        refine hend.mono ?_
        clear hend
        rintro r w5 ⟨rfl, m5, rfl⟩
        have hlv := W.lives_any (Go.World.drewN wr m5)
        go_wp2_with fail
        refine hlv.mono ?_
        clear hlv
        rintro r w7 ⟨rfl, hb7⟩
        have HB7 := Lib.hid ((below_drewN HBr.out m5).trans (hb7.mono HBr.out.size))
        clear hb7
        go_wp2_with fail
        go_ret
        exact ⟨rfl, HB7.out⟩

set_option maxRecDepth 100000 in
theorem lifted (os : Os) (started : os.Started) (H0 : Type) (enc : TypeId × Value → H0) (F0 : Stop.Interp) :
    ReturnsInHanded {} Try.checked os 9 .any ((Rows.OpenSpec.upto Rows.wireCanonicalSpec).pre6 enc Try.prog Try.f9 Rows.wireCanonicalUptoRow.domain false) (((Rows.OpenSpec.upto Rows.wireCanonicalSpec).at F0).post enc Try.prog Try.f9 false true false false) := by
  refine returnsInHanded_of_cond_sized (C := Try.checked) (s := (Rows.OpenSpec.upto Rows.wireCanonicalSpec)) (k := Rows.uptoSmall) rfl W.own started (by kernel_rfl) Try.func9
    (OpenSpec.witness (enc := enc) (C := Try.checked) (s := (Rows.OpenSpec.upto Rows.wireCanonicalSpec)) (k := Rows.uptoSmall) rfl false ⟨#[], #[.slice none 0 0, .slice none 0 0], []⟩ 8 (by kernel_rfl) (by kernel_rfl) (by kernel_rfl)
      (x := ([.nil, .nil], [], [])) (by kernel_rfl) (by kernel_rfl) (by kernel_rfl)) ?_
  intro W base args ds gs before hval0 hW hcnd hk0 hsz0 _
  have hval : ∀ (j : Nat) t v, Try.f9.params[j]? = some t → args[j]? = some v → Value.okWide Try.prog W .any base t v := hval0
  have hW' := hW
  obtain ⟨p, q, hA0, hV, rfl, hfz, hnd⟩ := hW
  have hA : DataW.TrodAll enc Try.prog W 0 (fun _ => true) true Try.f9.params.toList args.toList ds p := hA0
  rw [Try.params9] at hA hval
  obtain ⟨v0, vs0, d0, ds0, p0, q0, hargs, rfl, rfl, h0, r0⟩ := trodAll_cons hA
  obtain ⟨v1, vs1, d1, ds1, p1, q1, rfl, rfl, rfl, h1, r1⟩ := trodAll_cons r0
  obtain ⟨rfl, rfl, rfl⟩ := trodAll_nil r1
  obtain rfl : args = #[v0, v1] := by cases args; simp_all
  obtain ⟨rfl, rfl⟩ := trodVars_none hV
  obtain ⟨a0, n0, c0, rfl⟩ := okWide_slice Try.underlying24 (hval 0 24 v0 rfl rfl)
  have k0 := h0
  have lt0 : ∀ x ∈ p0, x.block < W.heap.size := by obtain ⟨m, hm⟩ := k0; exact DataW.trod_lt m _ _ _ hm
  obtain ⟨z0, l0, cp0, cq0, nz0, rd0, wf0, bj0⟩ := Go.Proofs.Ytdfokmhpnniphaa.W.open_isT Try.underlying24 Try.underlying5 (by kernel_rfl) h0
  obtain ⟨a1, n1, c1, rfl⟩ := okWide_slice Try.underlying22 (hval 1 22 v1 rfl rfl)
  have k1 := h1
  have lt1 : ∀ x ∈ p1, x.block < W.heap.size := by obtain ⟨m, hm⟩ := k1; exact DataW.trod_lt m _ _ _ hm
  obtain ⟨z1, l1, cp1, cq1, nz1, rd1, wf1, bj1⟩ := Go.Proofs.Ytdfokmhpnniphaa.W.open_its h1
  clear hA0 hval0
  have hk := of_decide_eq_true hk0
  simp only [List.append_nil, Rows.uptoBulkAll] at hk
  have bk0 : z0.length ≤ 1048575 := by omega
  have bk1 : (z1.map Go.Proofs.Ytdfokmhpnniphaa.W.Itm.w).sum ≤ 1048576 := by omega
  refine (walk a0 n0 c0 z0 a1 n1 c1 z1 W l0 ⟨cp0, cq0⟩ nz0 rd0 wf0 bk0 l1 ⟨cp1, cq1⟩ nz1 rd1 wf1 bk1).mono fun e W' ⟨he, bel⟩ => ?_
  subst he
  exact ⟨_, rfl, _, _, _, [], _, [], hW', trodAll_mk1 (shut_bool Try.underlying4 _), (trodAll_cons_mk (Below.trod Go.Proofs.Ytdfokmhpnniphaa.W.laidOut (by kernel_rfl) (of_decide_eq_true (by kernel_rfl)) k0 bel lt0) (trodAll_cons_mk (Below.trod Go.Proofs.Ytdfokmhpnniphaa.W.laidOut (by kernel_rfl) (of_decide_eq_true (by kernel_rfl)) k1 bel lt1) trodAll_mk0)), rfl, bel.frame _, fun h => by cases h⟩

/-- ████ THE STATEMENT ████ -/
theorem proved : Rows.WireCanonicalUptoSaid :=
  OpenClaim.holds_of_cond 9 Try.f9 rfl rfl rfl rfl rfl rfl rfl ⟨rfl, rfl, rfl, rfl, rfl⟩ rfl rfl rfl rfl rfl (by kernel_rfl) Try.func9 (by kernel_rfl)
    (of_decide_eq_true (by kernel_rfl)) (by unfold Func.isWrapper; first | (rw [if_pos (by decide +kernel)]; kernel_rfl) | (rw [if_neg (by decide +kernel)]; exact ⟨rfl, rfl⟩))
    (fun os started H0 enc _ F0 => by rw [OpenClaim.pre_of_none' rfl]; exact lifted os started H0 enc F0)
end Go.Proofs.Ytdfokmhpnniphaa.wireCanonical
