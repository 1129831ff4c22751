/-
  The iterators of orbit: where and its closure, for any predicate value.
-/
import Derived.Test.YtobbnbelacncjaaQV5
import Derived.Test.YtobbnbelacncjaaRange
import Derived.RangeFuncBound
import Derived.RangeFuncBox
import Derived.Shelf.AbstractIn
import Derived.Shelf.RegionOpen
import Derived.OwnWalkIn
import Derived.TacticsInMore
import Derived.LoopNIn
import Derived.LoopIn
namespace Go.Proofs.Ytobbnbelacncjaa
open Go.RowKit Go.Shelf
attribute [local go_sem] Oper.semAt_some
namespace Q
open H
set_option linter.unusedVariables false
set_option linter.unusedSimpArgs false
set_option maxRecDepth 100000
theorem grown_of_below {W W' : World} (hB : Below W.heap.size W W') : W.grownBy W' none := ⟨hB.os, hB.tape, hB.output, hB.size, fun j hj _ => hB.block j hj⟩
theorem abides_below {β : Type} {B : Nat} {J : β → World → Prop} (hJ : AbidesFrom B J) {s : β} {W W' : World} (h : J s W) (hB : Below W.heap.size W W') : J s W' :=
  hJ s W W' none h (grown_of_below hB) (fun r e => by cases e)
theorem own_below' {β : Type} {B : Nat} {J : β → World → Prop} (hJ : OwnFrom B J) {s : β} {W W' : World} (h : J s W) (hB : Below W.heap.size W W') : J s W' :=
  hJ s W W' none h (grown_of_below hB) (fun r e => by cases e)
/-- An element of a table that a predicate accepts. -/
abbrev El (T : List Wn) (p : Wn → Bool) : Type := { x : Wn // x ∈ T ∧ p x = true }
def pickE (T : List Wn) (p : Wn → Bool) (x : { x : Wn // x ∈ T }) : Option (El T p) := if h : p x.1 = true then some ⟨x.1, x.2, h⟩ else none
def upto (T : List Wn) (p : Wn → Bool) (k : Nat) : List (El T p) := (T.attach.take k).filterMap (pickE T p)
theorem upto_zero (T : List Wn) (p : Wn → Bool) : upto T p 0 = [] := rfl
theorem att_get {T : List Wn} {k : Nat} {x : Wn} (h : T[k]? = some x) : T.attach[k]? = some ⟨x, List.mem_of_getElem? h⟩ := by
  obtain ⟨hk, rfl⟩ := List.getElem?_eq_some_iff.1 h
  rw [List.getElem?_eq_getElem (by simpa using hk)]
  simp
theorem upto_yes {T : List Wn} {p : Wn → Bool} {k : Nat} {x : Wn} (h : T[k]? = some x) (hp : p x = true) : upto T p (k + 1) = upto T p k ++ [⟨x, List.mem_of_getElem? h, hp⟩] := by
  unfold upto
  rw [List.take_add_one, att_get h, List.filterMap_append]
  simp [pickE, hp]
theorem upto_no {T : List Wn} {p : Wn → Bool} {k : Nat} {x : Wn} (h : T[k]? = some x) (hp : p x = false) : upto T p (k + 1) = upto T p k := by
  unfold upto
  rw [List.take_add_one, att_get h, List.filterMap_append]
  simp [pickE, hp]
theorem upto_len (T : List Wn) (p : Wn → Bool) (k : Nat) : (upto T p k).length ≤ k := by
  unfold upto
  exact Nat.le_trans (List.length_filterMap_le _ _) (by rw [List.length_take]; omega)
def all (T : List Wn) (p : Wn → Bool) : List (El T p) := T.attach.filterMap (pickE T p)
theorem upto_all (T : List Wn) (p : Wn → Bool) : upto T p T.length = all T p := by
  unfold upto all
  rw [List.take_of_length_le (by simp)]
theorem pick_map (T : List Wn) (p : Wn → Bool) : ∀ l : List { x : Wn // x ∈ T }, (l.filterMap (pickE T p)).map (·.1) = (l.map (·.1)).filter p
  | [] => rfl
  | x :: l => by
    have ih := pick_map T p l
    cases hp : p x.1 with
    | true =>
      rw [List.filterMap_cons_some (b := ⟨x.1, x.2, hp⟩) (by simp [pickE, hp]), List.map_cons, List.map_cons, List.filter_cons, if_pos hp, ih]
    | false =>
      rw [List.filterMap_cons_none (by simp [pickE, hp]), List.map_cons, List.filter_cons, if_neg (by simp [hp]), ih]
theorem all_map (T : List Wn) (p : Wn → Bool) : (all T p).map (·.1) = T.filter p := by
  unfold all
  rw [pick_map, List.attach_map_subtype_val]
theorem upto_pre (T : List Wn) (p : Wn → Bool) (k : Nat) : upto T p k <+: all T p := by
  unfold upto all
  exact List.IsPrefix.filterMap _ (List.take_prefix _ _)
theorem cell_top2 (w : World) (o : Obj) (cs : Array Value) (t : TypeId) (i : Nat) : ((w.alloc o).alloc (.cells cs t)).cell? ⟨w.heap.size + 1, i, none⟩ = cs[i]? := by
  have h := cell_top (w.alloc o) cs t i
  rwa [World.size_alloc] at h
/-- The box of a slice; of a function value. -/
def Sb (W : World) (b : Nat) (v : Value) : Prop := W.cell? ⟨b, 0, none⟩ = some v
theorem Sb.call {W V : World} {b : Nat} {v : Value} (h : Sb W b v) (hB : Below W.heap.size W V) : Sb V b v := below_cell hB h
/-- What lay below n₀ lies as it lay, but for the blocks of F. -/
structure Kf (F : Nat → Prop) (n₀ : Nat) (W W' : World) : Prop where
  size : W.heap.size ≤ W'.heap.size
  same : ∀ b, b < n₀ → ¬ F b → W'.heap[b]? = W.heap[b]?
theorem Kf.refl (F : Nat → Prop) (n₀ : Nat) (W : World) : Kf F n₀ W W := ⟨Nat.le_refl _, fun _ _ _ => rfl⟩
theorem Kf.trans {F : Nat → Prop} {n₀ : Nat} {A B C : World} (h : Kf F n₀ A B) (k : Kf F n₀ B C) : Kf F n₀ A C := ⟨Nat.le_trans h.size k.size, fun b hb hf => (k.same b hb hf).trans (h.same b hb hf)⟩
theorem Kf.of {F : Nat → Prop} {n₀ n₁ : Nat} {A B : World} (h : Below n₁ A B) (hn : n₀ ≤ n₁) : Kf F n₀ A B := ⟨h.size, fun b hb _ => h.block b (Nat.lt_of_lt_of_le hb hn)⟩
theorem Kf.call {F : Nat → Prop} {w W V : World} (h : Kf F w.heap.size w W) (hB : Below W.heap.size W V) : Kf F w.heap.size w V := h.trans (Kf.of hB h.size)
theorem Kf.cell {F : Nat → Prop} {n₀ : Nat} {A B : World} (h : Kf F n₀ A B) {p : Addr} (hp : p.block < n₀) (hf : ¬ F p.block) : B.cell? p = A.cell? p := by
  unfold World.cell?
  rw [h.same _ hp hf]
theorem Kf.sb {F : Nat → Prop} {w W : World} {b : Nat} {v : Value} (h : Kf F w.heap.size w W) (hs : Sb w b v) (hf : ¬ F b) : Sb W b v := (h.cell (p := ⟨b, 0, none⟩) (World.block_lt_of_cell? _ _ hs) hf).trans hs
theorem Kf.ib {F : Nat → Prop} {w W : World} {b : Nat} {n : Int} (h : Kf F w.heap.size w W) (hs : Ib w b n) (hf : ¬ F b) : Ib W b n := (h.cell (p := ⟨b, 0, none⟩) (World.block_lt_of_cell? _ _ hs) hf).trans hs
theorem Kf.b {F : Nat → Prop} {n₀ : Nat} {w : World} (hn : n₀ ≤ w.heap.size) (W : World) (l : Nat) (o o' : Obj) (hl : w.heap.size ≤ l) (h : W.heap[l]? = some o) (_ : o.isCells = false) (_ : o.isWalk = false) : Kf F n₀ W (W.putObj l o') :=
  ⟨by simp, fun b hb _ => World.putObj_heap_other (by omega)⟩
theorem Kf.set {F : Nat → Prop} {n₀ : Nat} {W : World} {b i : Nat} (v : Value) (hF : F b) : Kf F n₀ W (W.setCell ⟨b, i, none⟩ v) :=
  ⟨(KeepsWalks.setCell W _ v).size, fun k _ hk => Below.heap_setCell _ _ _ k (fun e => hk (by rw [e]; exact hF))⟩
theorem Kf.rds {F : Nat → Prop} {w W : World} {B : Nat} {A : Option Addr} {T : List Wn} (h : Kf F w.heap.size w W) (hR : RdsWn w B A T) (hB : B ≤ w.heap.size) (hf : ∀ b, b < B → ¬ F b) : RdsWn W w.heap.size A T := fun j x hx => by
  obtain ⟨ad, e, ha, hr⟩ := hR j x hx
  have hlt : (ad.add (j * 6)).block < B := by rw [add_block]; exact ha
  have hc : ∀ p : Addr, p.block = (ad.add (j * 6)).block → W.cell? p = w.cell? p := fun p hp => h.cell (by omega) (hf _ (by omega))
  exact ⟨ad, e, by omega, (hc (ad.add (j * 6)) rfl).trans hr.c0, (hc ⟨(ad.add (j * 6)).block, (ad.add (j * 6)).off + 1, none⟩ rfl).trans hr.c1, (hc ⟨(ad.add (j * 6)).block, (ad.add (j * 6)).off + 2, none⟩ rfl).trans hr.c2, (hc ⟨(ad.add (j * 6)).block, (ad.add (j * 6)).off + 3, none⟩ rfl).trans hr.c3, (hc ⟨(ad.add (j * 6)).block, (ad.add (j * 6)).off + 4, none⟩ rfl).trans hr.c4, (hc ⟨(ad.add (j * 6)).block, (ad.add (j * 6)).off + 5, none⟩ rfl).trans hr.c5⟩
/-- A predicate's value: called in whatever later world. -/
def Acc (F : Nat → Prop) (w : World) (T : List Wn) (p : Wn → Bool) (ag : Nat) (alb : Array Value) : Prop :=
  ∀ W, Kf F w.heap.size w W → ∀ x, x ∈ T → Calls Try.prog ag (#[x.v] ++ alb) W fun e W' => e = .returned (.bool (p x)) ∧ Below W.heap.size W W'
set_option maxHeartbeats 4000000 in
theorem where1_in (n : Nat) (hn : 1 ≤ n) (l Bt Ba : Nat) (A : Option Addr) (cap : Nat) (T : List Wn) (p : Wn → Bool) (ag : Nat) (alb : Array Value) (len0 : Nat) (R : World → Prop) (Kp : World → World → Prop) (hRc : ∀ W V, R W → Below W.heap.size W V → R V) (hRk : ∀ W V, R W → Kp W V → R V)
    (eg : ∀ args w, (callFunc ag args).run Try.prog w = .ok (.enter ag args) w) (hlen : T.length ≤ 140737488351232)
    (hA : ∀ W, R W → ∀ x, x ∈ T → Calls Try.prog ag (#[x.v] ++ alb) W fun e W' => e = .returned (.bool (p x)) ∧ Below W.heap.size W W') (J Jx : List (El T p) → World → Prop) (B : Nat) (hJ : AbidesFrom B J)
    (hY : ∀ pre (x : El T p) W1, J pre W1 → pre.length < T.length → YieldAt Fence.wide (n - 1) Try.prog l #[x.1.v] W1 fun e W' => (e = .returned (.bool true) ∧ J (pre ++ [x]) W' ∧ Kp W1 W') ∨ (e = .returned (.bool false) ∧ Jx (pre ++ [x]) W'))
    (W : World) (hW : R W) (hT : ∀ W, R W → Sb W Bt (.slice A T.length cap)) (hF : ∀ W, R W → Sb W Ba (.func (.func ag) #[] alb)) (hR : ∀ W, R W → RdsWn W len0 A T) (h0 : J [] W) :
    CallsIn Fence.wide n Try.prog 66 #[.func (.yield l) #[] #[], bp Bt, bp Ba] W fun e W' => (∃ v, e = .returned v) ∧ ((∃ ys, ys = all T p ∧ J ys W') ∨ (∃ pre, pre <+: all T p ∧ Jx pre W')) := by
  have HA := Lib.hid hA
  have HRC := Lib.hid hRc
  have HRK := Lib.hid hRk
  clear hRc hRk
  have HJ := Lib.hid (fun s (W W' : World) (h : J s W) (hB : Below W.heap.size W W') => abides_below hJ h hB)
  have HY := Lib.hid hY
  have HTb : Hid (∀ W', R W' → W'.cell? ⟨Bt, 0, none⟩ = some (.slice A T.length cap)) := Lib.hid (fun W' h => hT W' h)
  have HFb : Hid (∀ W', R W' → W'.cell? ⟨Ba, 0, none⟩ = some (.func (.func ag) #[] alb)) := Lib.hid (fun W' h => hF W' h)
  have HR := Lib.hid hR
  have HGET := Lib.hid (fun k (hk : k < T.length) => (⟨T[k], List.getElem?_eq_getElem hk⟩ : ∃ x, T[k]? = some x))
  have HYES := Lib.hid (fun k x (h : T[k]? = some x) (hp : p x = true) => upto_yes h hp)
  have HNO := Lib.hid (fun k x (h : T[k]? = some x) (hp : p x = false) => upto_no h hp)
  have HL := Lib.hid (fun k => upto_len T p k)
  have HALL := Lib.hid (upto_all T p)
  have HPRE := Lib.hid (fun k => upto_pre T p k)
  have HSTART : Hid (J (upto T p 0) W) := Lib.hid (by rw [upto_zero]; exact h0)
  have HW := Lib.hid hW
  have b1 := HTb.out W hW
  clear hA hJ hY hW hT hF hR h0
  generalize hlenT : T.length = len at *
  have HLEN := Lib.hid hlenT
  clear hlenT
  refine callsIn_of_wp Try.func66 rfl trivial ?_ rfl
  simp only [Try.ntmps66, List.size_toArray, List.length_cons, List.length_nil, Nat.reduceAdd, Nat.reduceSub, Array.replicate_succ, Array.replicate_zero, List.push_toArray, List.append_toArray, List.nil_append, List.cons_append]
  gi_wp2
  gi_loopw [8] (fun i wr => ∃ k : Nat, k ≤ len ∧ i = .int .i64 k ∧ J (upto T p k) wr ∧ R wr) (fun i _ => len - (intOf i).toNat)
  case atStart => exact ⟨0, Nat.zero_le _, rfl, HSTART.out, HW.out⟩
  case round =>
    obtain ⟨k, hk, rfl, hi, hB⟩ := hrel
    have BEL := Lib.hid hB
    have HI := Lib.hid hi
    clear hi hB
    by_cases hlt : k < len
    · have hki : (k : Int) < (len : Int) := by omega
      have HLT := Lib.hid hlt
      obtain ⟨x, hx⟩ := HGET.out k hlt
      obtain ⟨ad, rfl, _, hr⟩ := HR.out wr BEL.out k x hx
      have c0 := hr.c0
      have c1 := hr.c1
      have c2 := hr.c2
      have c3 := hr.c3
      have c4 := hr.c4
      have c5 := hr.c5
      have b2 := HTb.out wr BEL.out
      have hmem := List.mem_of_getElem? hx
      obtain ⟨X, hX⟩ : ∃ X, X = wr.alloc (.cells #[.int .i64 x.kind, .int .i64 x.a, .int .i64 x.b, .int .i64 x.fr, .int .i64 x.un, .int .i64 x.rate] 77) := ⟨_, rfl⟩
      have HXB : Hid (Below wr.heap.size wr X) := Lib.hid (by rw [hX]; exact bel1 wr _)
      have HNX := Lib.hid (hX ▸ Bx.new wr x 77 : Bx X wr.heap.size x)
      have HBX := Lib.hid (HRC.out _ _ BEL.out HXB.out)
      have b3 := HFb.out X HBX.out
      have HC := Lib.hid (HA.out X HBX.out x hmem)
      have n0 := HNX.out.c0
      have n1 := HNX.out.c1
      have n2 := HNX.out.c2
      have n3 := HNX.out.c3
      have n4 := HNX.out.c4
      have n5 := HNX.out.c5
      rw [hX] at b3 n0 n1 n2 n3 n4 n5
      have HXX := Lib.hid hX
      clear hX hr
      cases hp : p x with
      | true =>
        have HYx : Hid (∀ W1, J (upto T p k) W1 → YieldAt Fence.wide (n - 1) Try.prog l #[x.v] W1 fun e W' => (e = .returned (.bool true) ∧ J (upto T p (k + 1)) W' ∧ Kp W1 W') ∨ (e = .returned (.bool false) ∧ Jx (upto T p (k + 1)) W')) := Lib.hid (fun W1 h => by
          rw [HYES.out k x hx hp]
          exact HY.out (upto T p k) ⟨x, List.mem_of_getElem? hx, hp⟩ W1 h (Nat.lt_of_le_of_lt (HL.out k) hlt))
        rw [hp] at HC
        have HJX := Lib.hid (HJ.out _ wr X HI.out HXB.out)
        clear hx hp hlt hmem
        gi_wp2_with (refine ⟨trivial, ?_⟩; gi_at_fn ag; rw [← HXX.out]; refine (callsIn_wide.2 HC.out).mono ?_; rintro e W2 ⟨rfl, hB2⟩; obtain ⟨fn, tmps, assign, body, hy, hR⟩ := HYx.out W2 (HJ.out _ X W2 HJX.out hB2); have HN2 := Lib.hid (HNX.out.call hB2); have m0 := HN2.out.c0; have m1 := HN2.out.c1; have m2 := HN2.out.c2; have m3 := HN2.out.c3; have m4 := HN2.out.c4; have m5 := HN2.out.c5)

        refine hR.mono ?_
        rintro e W3 (⟨rfl, hJ3, hk3⟩ | ⟨rfl, hx3⟩)
        · have HJ3 := Lib.hid hJ3
          have HB3 := Lib.hid (HRK.out _ _ (HRC.out _ _ HBX.out hB2) hk3)
          clear hJ3 hk3 hR hy
          gi_wp2
          go_roundw
          case rel => exact ⟨k + 1, by have := HLT.out; omega, by go_num, HJ3.out, HB3.out⟩
          case measure => simp [intOf]; have := HLT.out; omega
        · have HX3 := Lib.hid hx3
          clear hx3 hR hy
          gi_wp2
          refine bodyPost_ret (results_none rfl _ _ _) rfl ?_
          exact ⟨⟨_, rfl⟩, .inr ⟨_, HPRE.out (k + 1), HX3.out⟩⟩
      | false =>
        have HJX : Hid (J (upto T p (k + 1)) X) := Lib.hid (by rw [HNO.out k x hx hp]; exact HJ.out _ wr X HI.out HXB.out)
        rw [hp] at HC
        clear hx hp hlt hmem
        gi_wp2_with (refine ⟨trivial, ?_⟩; gi_at_fn ag; rw [← HXX.out]; refine (callsIn_wide.2 HC.out).mono ?_; rintro e W2 ⟨rfl, hB2⟩)
        refine ⟨fun _ h => (by cases h), ?_⟩
        gi_wp2
        go_roundw
        case rel => exact ⟨k + 1, by have := HLT.out; omega, by go_num, HJ.out _ X W2 HJX.out hB2, HRC.out _ _ HBX.out hB2⟩
        case measure => simp [intOf]; have := HLT.out; omega
    · obtain rfl : k = len := by omega
      have HE : Hid (J (all T p) wr) := Lib.hid (by rw [← HALL.out]; exact HI.out)
      clear hlt
      gi_wp2
      go_end0
      exact ⟨⟨_, rfl⟩, .inl ⟨_, rfl, HE.out⟩⟩
theorem where_stops (n : Nat) (hn : 1 ≤ n) (Bt Ba : Nat) (A : Option Addr) (cap : Nat) (T : List Wn) (p : Wn → Bool) (ag : Nat) (alb : Array Value) (F : Nat → Prop) (w : World)
    (eg : ∀ args w, (callFunc ag args).run Try.prog w = .ok (.enter ag args) w) (hlen : T.length ≤ 140737488351232)
    (hA : Acc F w T p ag alb) (hT : ∀ W, Kf F w.heap.size w W → Sb W Bt (.slice A T.length cap)) (hF : ∀ W, Kf F w.heap.size w W → Sb W Ba (.func (.func ag) #[] alb)) (hR : ∀ W, Kf F w.heap.size w W → RdsWn W w.heap.size A T) :
    SeqStopsK Fence.wide n Try.prog 66 #[bp Bt, bp Ba] (fun x : El T p => #[x.1.v]) (Kf F w.heap.size) (fun ys => ys = all T p) (fun pre => pre <+: all T p) T.length w := fun l J Jx W hW hJ hJx hY h0 =>
  where1_in n hn l Bt Ba A cap T p ag alb w.heap.size (Kf F w.heap.size w) (Kf F w.heap.size) (fun W V h hB => h.call hB) (fun W V h k => h.trans k) eg hlen hA J Jx _ hJ hY W (Kf.of hW (Nat.le_refl _)) hT hF hR h0
set_option maxHeartbeats 2000000 in
theorem where_any (A : Option Addr) (len cap : Nat) (ag : Nat) (alb : Array Value) (w : World) :
    Calls Try.prog 46 #[.slice A len cap, .func (.func ag) #[] alb] w fun e w' => e = .returned (.func (.func 66) #[] #[bp w.heap.size, bp (w.heap.size + 1)]) ∧ Sb w' w.heap.size (.slice A len cap) ∧ Sb w' (w.heap.size + 1) (.func (.func ag) #[] alb) ∧ Below w.heap.size w w' ∧ w'.heap.size = w.heap.size + 2 := by
  go_enter Try.func46, Try.ntmps46
  go_wp2_with fail
  go_ret
  refine ⟨rfl, ?_, ?_, bel2 w _ _, by simp⟩
  · exact cell_under _ (cell_top _ _ _ _)
  · exact cell_top2 _ _ _ _ _
end Q
end Go.Proofs.Ytobbnbelacncjaa
