/-
  Contracts of the specification's functions of layer 3: Feed, Register, Update, Sum, Combine, Bytes, Seal, Open.
-/
import Derived.Test.YtpkhbglmbdpodaaDoorRows
import Derived.Test.YtpkhbglmbdpodaaDoorKit
import Derived.Test.YtpkhbglmbdpodaaDoorCMath
import Derived.Deep.DeepCutAuto
import Derived.Deep.RegionHeld3
import Derived.Laws.BytesArg
import Derived.Laws.AppendOwnNone
namespace Go.Proofs.YtpkhbglmbdpodaaDoor
open Go.RowKit
namespace C
open H
set_option linter.unusedVariables false

theorem u32_range {a : Int} (h : (Lit.int .u32 a).wf = true) : 0 ≤ a ∧ a < 4294967296 := by
  simp [Lit.wf, IntKind.min, IntKind.max, IntKind.signed, IntKind.bits] at h
  omega
theorem u16_range {a : Int} (h : (Lit.int .u16 a).wf = true) : 0 ≤ a ∧ a < 65536 := by
  simp [Lit.wf, IntKind.min, IntKind.max, IntKind.signed, IntKind.bits] at h
  omega
theorem byt_append {xs bs : List Int} (h : Byt xs) (k : Byt bs) : Byt (xs ++ bs) := fun x hx => by
  rcases List.mem_append.1 hx with h1 | h1
  · exact h x h1
  · exact k x h1
/-- Bytes as natural numbers. -/
def nats (bs : List Int) : List Nat := bs.map Int.toNat
theorem nats_byt {bs : List Int} (h : Byt bs) : ∀ b ∈ nats bs, b < 256 := fun b hb => by
  obtain ⟨x, hx, rfl⟩ := List.mem_map.1 hb
  have := h x hx
  omega
theorem nats_take (bs : List Int) (k : Nat) : (nats bs).take k = nats (bs.take k) := by simp [nats, List.map_take]
theorem nats_append (xs bs : List Int) : nats (xs ++ bs) = nats xs ++ nats bs := by simp [nats]
theorem nats_len (bs : List Int) : (nats bs).length = bs.length := by simp [nats]

set_option maxRecDepth 100000 in
set_option maxHeartbeats 1000000 in
theorem rfeed_any (r c : Nat) (hr : r < 4294967296) (hc : c < 256) (w : World) :
    Calls Tryd.prog 37 #[.int .u32 r, .int .u8 c] w fun e w' => e = .returned (.int .u32 (feed r c)) ∧ w' = w := by
  have hx : bits .xor .u32 (r : Int) ((c : Int) % 4294967296) = ((r ^^^ c : Nat) : Int) := by
    rw [Int.emod_eq_of_lt (by omega) (by omega)]
    exact u32_xor_nat r c hr (by omega)
  have HLT := Lib.hid (fun k => st_lt (lt_xor (n := 32) hr (show c < 2 ^ 32 by omega)) k)
  unfold feed
  generalize r ^^^ c = y at hx HLT ⊢
  have HX := Lib.hid hx
  clear hr hc hx
  go_enter Tryd.func37, Tryd.ntmps37
  go_wp2_with fail
  go_loopw [0, 5] (fun x i wr => ∃ k : Nat, k ≤ 8 ∧ x = .int .u32 (st k y) ∧ i = .int .i64 k ∧ wr = w) (fun _ i _ => 8 - (intOf i).toNat)
  case atStart => exact ⟨0, by omega, congrArg (Value.int IntKind.u32) HX.out, rfl, rfl⟩
  case round =>
    obtain ⟨k, hk, rfl, rfl, rfl⟩ := hrel
    by_cases hlt : k < 8
    · have HS := Lib.hid (And.intro (st_succ k y) (HLT.out k))
      generalize st k y = z at HS
      by_cases h1 : z % 2 = 1
      · have h1' : ((z : Int) % 2 == 1) = true := by simp; omega
        go_wp2_with fail
        refine ⟨⟨k + 1, by omega, ?_, by go_num, trivial⟩, by simp [intOf]; omega⟩
        have e := u32_xor_nat (z / 2) 3988292384 (by have := HS.out.2; omega) (by decide)
        have e2 : ((z / 2 : Nat) : Int) = (z : Int) / 2 := by omega
        rw [e2] at e
        rw [HS.out.1, st1, if_pos h1]
        exact congrArg (Value.int IntKind.u32) e
      · have h1' : ((z : Int) % 2 == 1) = false := by simp; omega
        go_wp2_with fail
        refine ⟨⟨k + 1, by omega, ?_, by go_num, trivial⟩, by simp [intOf]; omega⟩
        have e2 : ((z / 2 : Nat) : Int) = (z : Int) / 2 := by omega
        rw [HS.out.1, st1, if_neg h1, e2]
    · obtain rfl : k = 8 := by omega
      go_wp2_with fail
      go_ret
      exact ⟨rfl, rfl⟩
theorem nats_snoc {bs : List Int} {k : Nat} {x : Int} (h : bs[k]? = some x) : nats (bs.take (k + 1)) = nats (bs.take k) ++ [x.toNat] := by
  rw [List.take_add_one, h]
  simp [nats]
theorem byt_at {bs : List Int} (h : Byt bs) {k : Nat} {x : Int} (hx : bs[k]? = some x) : 0 ≤ x ∧ x < 256 := h x (List.mem_of_getElem? hx)
theorem byt_take {bs : List Int} (h : Byt bs) (k : Nat) : Byt (bs.take k) := fun x hx => h x (List.mem_of_mem_take hx)

set_option maxRecDepth 100000 in
set_option maxHeartbeats 1000000 in
theorem rreg_any (r : Nat) (A : Option Addr) (n c : Nat) (bs : List Int) (w : World) (hr : r < 4294967296) (hl : bs.length = n) (hn : n ≤ 140737488351232) (hb : Byt bs) (hrd : RdI w w.heap.size .u8 A bs) :
    Calls Tryd.prog 32 #[.int .u32 r, .slice A n c] w fun e w' => e = .returned (.int .u32 (reg r (nats bs))) ∧ w' = w := by
  have HL := Lib.hid hl
  have HB := Lib.hid hb
  have HR := Lib.hid hrd
  have HRR := Lib.hid hr
  clear hl hb hrd hr
  go_enter Tryd.func32, Tryd.ntmps32
  go_wp2_with fail
  go_loopw [0, 5] (fun x i wr => ∃ k : Nat, k ≤ n ∧ x = .int .u32 (reg r (nats (bs.take k))) ∧ i = .int .i64 k ∧ wr = w) (fun _ i _ => n - (intOf i).toNat)
  case atStart => exact ⟨0, by omega, rfl, rfl, rfl⟩
  case round =>
    obtain ⟨k, hk, rfl, rfl, rfl⟩ := hrel
    by_cases hlt : k < n
    · obtain ⟨ad, rfl, _, hx⟩ := HR.out k (by rw [HL.out]; exact hlt)
      have gx : bs[k]? = some (bs[k]?.getD 0) := by rw [List.getElem?_eq_getElem (by rw [HL.out]; exact hlt)]; rfl
      generalize bs[k]?.getD 0 = x at hx gx
      have hx8 := byt_at HB.out gx
      obtain ⟨c, rfl⟩ : ∃ c : Nat, x = c := ⟨x.toNat, by omega⟩
      have hs := nats_snoc gx
      have hcall := rfeed_any (reg r (nats (bs.take k))) c (reg_lt HRR.out (nats_byt (byt_take HB.out k))) (by omega) wr
      have e2 : reg r (nats (bs.take (k + 1))) = feed (reg r (nats (bs.take k))) c := by rw [hs, reg_append]; rfl
      have E2 := Lib.hid e2
      have hk0 : (0 : Int) ≤ (k : Int) := by omega
      have hk1 : (k : Int) < (n : Int) := by omega
      generalize reg r (nats (bs.take k)) = z at hcall E2
      clear gx hs e2 hx8
      go_wp2_with fail
      refine hcall.mono ?_
      clear hcall
      rintro e w2 ⟨rfl, rfl⟩
      go_wp2_with fail
      refine ⟨⟨k + 1, by omega, by rw [E2.out], by go_num, trivial⟩, by simp [intOf]; omega⟩
    · go_wp2_with fail
      go_ret
      refine ⟨?_, rfl⟩
      rw [List.take_of_length_le (by rw [HL.out]; omega)]
      rfl

theorem ones_int : (4294967295 : Int) = (ones : Nat) := rfl
set_option maxRecDepth 100000 in
set_option maxHeartbeats 1000000 in
theorem rupd_any (s : Nat) (A : Option Addr) (n c : Nat) (bs : List Int) (w : World) (hs : s < 4294967296) (hl : bs.length = n) (hn : n ≤ 140737488351232) (hb : Byt bs) (hrd : RdI w w.heap.size .u8 A bs) :
    Calls Tryd.prog 17 #[.int .u32 s, .slice A n c] w fun e w' => e = .returned (.int .u32 (upd s (nats bs))) ∧ w' = w := by
  have hcall := rreg_any (ones - s) A n c bs w (by unfold ones; omega) hl hn hb hrd
  have hlt : reg (ones - s) (nats bs) < 4294967296 := reg_lt (by unfold ones; omega) (nats_byt hb)
  have e1 : ((4294967295 : Int) - (s : Int)) % 4294967296 = ((ones - s : Nat) : Int) := by unfold ones; omega
  have e2 : ((4294967295 : Int) - ((reg (ones - s) (nats bs) : Nat) : Int)) % 4294967296 = ((upd s (nats bs) : Nat) : Int) := by unfold upd; unfold ones at hlt ⊢; omega
  have E1 := Lib.hid e1
  have E2 := Lib.hid e2
  clear hl hb hrd hs hn hlt e1 e2
  generalize upd s (nats bs) = u at E2 ⊢
  generalize reg (ones - s) (nats bs) = z at hcall E2
  generalize ones - s = s' at hcall E1
  go_enter Tryd.func17, Tryd.ntmps17
  go_wp2_with fail
  rw [E1.out]
  refine hcall.mono ?_
  clear hcall
  rintro e w2 ⟨rfl, rfl⟩
  go_wp2_with fail
  go_ret
  exact ⟨congrArg (fun z => Ending.returned (Value.int IntKind.u32 z)) E2.out, rfl⟩
set_option maxHeartbeats 1000000 in
theorem rsum_any (A : Option Addr) (n c : Nat) (bs : List Int) (w : World) (hl : bs.length = n) (hn : n ≤ 140737488351232) (hb : Byt bs) (hrd : RdI w w.heap.size .u8 A bs) :
    Calls Tryd.prog 15 #[.slice A n c] w fun e w' => e = .returned (.int .u32 (sum (nats bs))) ∧ w' = w := by
  have hcall := rupd_any 0 A n c bs w (by decide) hl hn hb hrd
  clear hl hb hrd
  unfold sum
  generalize upd 0 (nats bs) = u at hcall ⊢
  go_enter Tryd.func15, Tryd.ntmps15
  go_wp2_with fail
  refine hcall.mono ?_
  clear hcall
  rintro e w2 ⟨rfl, rfl⟩
  go_wp2_with fail
  go_ret
  exact ⟨rfl, rfl⟩
theorem u32_x (a b : Nat) (ha : a < 4294967296) (hb : b < 4294967296) : bits .xor .u32 (a : Int) (b : Int) = ((a ^^^ b : Nat) : Int) := u32_xor_nat a b ha hb
set_option maxRecDepth 100000 in
set_option maxHeartbeats 1000000 in
theorem rcomb_any (a b : Nat) (n : Int) (w : World) (ha : a < 4294967296) (hb : b < 4294967296) (hn : n ≤ 9223372036854775806) :
    Calls Tryd.prog 19 #[.int .u32 a, .int .u32 b, .int .i64 n] w fun e w' => e = .returned (.int .u32 (comb a b n.toNat)) ∧ w' = w := by
  have HA := Lib.hid ha
  have HB := Lib.hid hb
  have HN := Lib.hid hn
  clear ha hb hn
  go_enter Tryd.func19, Tryd.ntmps19
  go_wp2_with fail
  go_loopw [0, 7] (fun x i wr => ∃ k : Nat, k ≤ n.toNat ∧ x = .int .u32 (st (8 * k) a) ∧ i = .int .i64 k ∧ wr = w) (fun _ i _ => n.toNat - (intOf i).toNat)
  case atStart => exact ⟨0, by omega, rfl, rfl, rfl⟩
  case round =>
    obtain ⟨k, hk, rfl, rfl, rfl⟩ := hrel
    by_cases hlt : (k : Int) < n
    · have hcall := rfeed_any (st (8 * k) a) 0 (st_lt HA.out _) (by decide) wr
      have E2 := Lib.hid (show feed (st (8 * k) a) 0 = st (8 * (k + 1)) a by rw [show 8 * (k + 1) = 8 * k + 8 from by omega, st_add]; unfold feed; rw [Nat.xor_zero])
      have hb := HN.out
      have hk9 : (k : Int) + 1 ≤ 9223372036854775807 := by omega
      clear hb
      generalize st (8 * k) a = z at hcall E2
      go_wp2_with fail
      refine hcall.mono ?_
      clear hcall
      rintro e w2 ⟨rfl, rfl⟩
      go_wp2_with fail
      refine ⟨⟨k + 1, by omega, by rw [E2.out], by go_num, trivial⟩, by simp [intOf]; omega⟩
    · have e1 := u32_x (st (8 * k) a) b (st_lt HA.out _) HB.out
      have e2 : k = n.toNat := by omega
      have E1 := Lib.hid e1
      have E2 := Lib.hid e2
      clear e1 e2
      go_wp2_with fail
      go_ret
      refine ⟨?_, rfl⟩
      show Ending.returned (Value.int IntKind.u32 (bits .xor .u32 ((st (8 * k) a : Nat) : Int) (b : Int))) = _
      rw [E1.out, E2.out]
      rfl

theorem infoB : (Tryd.prog.info? 5).map (fun i => (i.zero, i.size, i.bytes)) = some (some (.int .u8 0), 1, 1) := by kernel_rfl
/-- A new slice of bytes, the call's own. -/
def OwnB (w w' : World) (bs : List Int) (v : Value) : Prop := w'.ownsRow w.heap.size 5 1 v bs.length (bs.map (Value.int .u8)) ∧ Below w.heap.size w w'
def ints (bs : List Nat) : List Int := bs.map fun (b : Nat) => (b : Int)
theorem nats_ints (bs : List Nat) : nats (ints bs) = bs := by simp [nats, ints, Function.comp_def]
theorem ints_nats {bs : List Int} (h : Byt bs) : ints (nats bs) = bs := by
  unfold ints nats
  rw [List.map_map]
  conv => rhs; rw [← List.map_id bs]
  exact List.map_congr_left fun x hx => by have := h x hx; simp only [Function.comp_apply, id]; omega
theorem ints_byt {bs : List Nat} (h : ∀ b ∈ bs, b < 256) : Byt (ints bs) := fun x hx => by
  obtain ⟨b, hb, rfl⟩ := List.mem_map.1 hx
  have := h b hb
  omega
theorem ints_len (bs : List Nat) : (ints bs).length = bs.length := by simp [ints]
theorem le4_form (d : Nat) (h : d < 4294967296) : ints (le4 d) = [(d : Int) % 256, (d : Int) / 256 % 256, (d : Int) / 65536 % 256, (d : Int) / 16777216 % 256] := by
  have h1 : ((d % 256 : Nat) : Int) = (d : Int) % 256 := by omega
  have h2 : ((d / 256 % 256 : Nat) : Int) = (d : Int) / 256 % 256 := by omega
  have h3 : ((d / 256 / 256 % 256 : Nat) : Int) = (d : Int) / 65536 % 256 := by omega
  have h4 : ((d / 256 / 256 / 256 % 256 : Nat) : Int) = (d : Int) / 16777216 % 256 := by omega
  simp only [ints, le4, digits, List.map_cons, List.map_nil, h1, h2, h3, h4]
set_option maxRecDepth 100000 in
set_option maxHeartbeats 1000000 in
theorem rbytes_any (d : Nat) (w : World) (hd : d < 4294967296) :
    Calls Tryd.prog 40 #[.int .u32 d] w fun e w' => ∃ v, e = .returned v ∧ OwnB w w' (ints (le4 d)) v := by
  have HD := Lib.hid hd
  clear hd
  go_enter Tryd.func40, Tryd.ntmps40
  go_wp2_with fail
  go_ret
  refine ⟨_, rfl, ?_, (Below.refl _ _).alloc (Nat.le_refl _) _⟩
  rw [le4_form d HD.out]
  exact World.ownsRow_lit (base := w.heap.size) (e := 5) (size := 1) w #[.int .u8 ((d : Int) % 256), .int .u8 ((d : Int) / 256 % 256), .int .u8 ((d : Int) / 65536 % 256), .int .u8 ((d : Int) / 16777216 % 256)] 4 (Nat.le_refl _) (by unfold maxLen; omega) (by simp)

/-- Seal's first append: a copy, in memory of its own. -/
theorem own_below0 {W w1 : World} {base k : Nat} {e : TypeId} {v : Value} {xs : List Value} (hb : base ≤ W.heap.size) (hrow : W.ownsRow base e 1 v k xs) (hgrow : W.grownBy w1 v.ownBlock) : Below base W w1 :=
  ⟨hgrow.os, hgrow.tape, hgrow.output, hgrow.size, fun j hj => hgrow.block j (by omega) (fun h => by
    rcases hrow.2 with ⟨rfl, _⟩ | ⟨g, cap, cur, rfl, hg, _⟩
    · cases h
    · have : j = g := by simpa [Value.ownBlock] using h
      omega)⟩
theorem own_cap {w : World} {base n : Nat} {e : TypeId} {A : Option Addr} {c m : Nat} {xs : List Value} (h : w.ownsRow base e 1 (.slice A m c) n xs) : m = n ∧ n ≤ c ∧ c ≤ maxLen ∧ (A = none → c = 0) ∧ (∀ a, A = some a → base ≤ a.block ∧ a.block < w.heap.size) := by
  rcases h.2 with ⟨hv, hz⟩ | ⟨g, cap, cur, hv, hg, hh, h1, h2, _⟩
  · injection hv with e1 e2 e3; subst e1 e2 e3 hz; exact ⟨rfl, Nat.le_refl _, by decide, fun _ => rfl, fun a ha => by cases ha⟩
  · injection hv with e1 e2 e3; subst e1 e2 e3; exact ⟨rfl, h1, h2, (fun h => by cases h), fun a ha => by injection ha with ha; subst ha; exact ⟨hg, (Array.getElem?_eq_some_iff.1 hh).1⟩⟩
set_option maxRecDepth 100000 in
set_option maxHeartbeats 1000000 in
theorem rseal_any (A : Option Addr) (n c : Nat) (bs : List Int) (w : World) (hl : bs.length = n) (hn : n ≤ 140737488351200) (hnil : A = none → c = 0) (hb : Byt bs) (hrd : RdI w w.heap.size .u8 A bs) :
    Calls Tryd.prog 23 #[.slice A n c] w fun e w' => ∃ v, e = .returned v ∧ OwnB w w' (bs ++ ints (le4 (sum (nats bs)))) v := by
  obtain ⟨i0, hi, hz0, hz1, hz2⟩ := info_parts infoB
  have HL := Lib.hid hl
  have HB8 := Lib.hid hb
  have HR := Lib.hid hrd
  have HN := Lib.hid hnil
  clear hl hb hrd hnil
  go_enter Tryd.func23, Tryd.ntmps23
  go_upto_region 1 with fail
  go_cut [3] (fun sx wc => wc.ownsRow w.heap.size 5 1 sx n (bs.map (Value.int .u8)) ∧ Below w.heap.size w wc)
  case first =>
    have hB := (Below.refl w.heap.size w).alloc (Nat.le_refl _) (.cells #[] 5)
    have hown : (w.alloc (.cells #[] 5)).ownsRow w.heap.size 5 1 (.slice (some ⟨w.heap.size, 0, none⟩) 0 0) 0 [] := World.ownsRow_made w #[] 0 (Nat.le_refl _) (by decide) (by simp)
    have HO := Lib.hid hown
    have HB := Lib.hid hB
    clear hown hB
    rcases A with _ | ad
    · obtain rfl : bs = [] := by
        rcases bs with _ | ⟨z, zs⟩
        · rfl
        · obtain ⟨_, e, _⟩ := HR.out 0 (by simp)
          cases e
      obtain rfl : n = 0 := by rw [← HL.out]; rfl
      obtain rfl := HN.out rfl
      go_wp2_with (at_builtin; go_must (refine wpList_append_own_none rfl _ _ 22 rfl w.heap.size 5 i0 1 Tryd.underlying22 hi _ _ _ rfl HO.out rfl ?_))
      go_meet
      exact ⟨HO.out, HB.out⟩
    · have hnews := (HR.out.below HB.out).news n
      rw [List.take_of_length_le (by rw [HL.out]; exact Nat.le_refl _)] at hnews
      have hnl : (bs.map (Value.int .u8)).length = n * 1 := by rw [List.length_map, HL.out]; omega
      have HNW := Lib.hid hnews
      have HNL := Lib.hid hnl
      clear hnews hnl
      go_wp2_with (at_builtin; refine wpList_append_own _ rfl _ _ 22 rfl w.heap.size 5 i0 (.int .u8 0) 1 1 Tryd.underlying22 hi hz0 hz1 hz2 rfl (by decide) _ _ _ rfl HO.out ad n c (bs.map (Value.int .u8)) rfl HNL.out HNW.out (one_cells _ _) (by unfold maxLen; omega) (by omega) (by simp) ?_; intro v' w2 hown' hgrow _; have HO2 := Lib.hid hown'; have HB2 := Lib.hid (HB.out.trans (own_below0 (by simp) HO.out hgrow)); clear hown' hgrow)
      go_meet
      refine ⟨?_, HB2.out⟩
      simpa using HO2.out
  case rest =>
    obtain ⟨ho1, hB1⟩ := hcut
    obtain ⟨w1, hw1⟩ : ∃ w1, w1 = wc := ⟨_, rfl⟩
    subst hw1
    obtain ⟨A1, q1, rfl⟩ := own_shape ho1
    have hsum := rsum_any A n c bs w1 HL.out (by omega) HB8.out ((HR.out.below hB1).more hB1.size)
    have hby := rbytes_any (sum (nats bs)) w1 (sum_lt _)
    have HO1 := Lib.hid ho1
    have HB1 := Lib.hid hB1
    obtain ⟨d, hd⟩ : ∃ d, sum (nats bs) = d := ⟨_, rfl⟩
    rw [hd] at hsum hby
    have HD := Lib.hid hd
    have hs1 := hB1.size
    clear ho1 hB1 hd
    go_wp2_with fail
    refine hsum.mono ?_
    clear hsum
    rintro e w2 ⟨rfl, rfl⟩
    go_wp2_with fail
    refine hby.mono ?_
    clear hby
    rintro e w3 ⟨v3, rfl, ho3, hB3⟩
    have hl4 : (ints (le4 d)).length = 4 := by rw [ints_len]; exact digits_len 4 d
    rw [hl4] at ho3
    obtain ⟨g3, c3, rfl, hg3, hg3'⟩ := own_form ho3 (by decide)
    have hnews := (own_RdI ho3).news 4
    rw [List.take_of_length_le (by rw [hl4]; exact Nat.le_refl _)] at hnews
    have hown := own_kept_below HO1.out hB3
    have HNW := Lib.hid hnews
    have HO3 := Lib.hid hown
    have HL4 := Lib.hid hl4
    have hs3 := hB3.size
    have HB3 := Lib.hid (HB1.out.trans (hB3.mono hs1))
    clear hnews hown ho3 hB3 hl4
    go_wp2_with (at_builtin; refine wpList_append_own _ rfl _ _ 22 rfl w.heap.size 5 i0 (.int .u8 0) 1 1 Tryd.underlying22 hi hz0 hz1 hz2 rfl (by decide) _ _ _ rfl HO3.out ⟨g3, 0, none⟩ 4 c3 ((ints (le4 d)).map (Value.int .u8)) rfl (by rw [List.length_map, HL4.out]) HNW.out (one_cells _ _) (by unfold maxLen; omega) (by omega) (by omega) ?_; intro v' w4 hown' hgrow _; have HO4 := Lib.hid hown'; have HB4 := Lib.hid (HB3.out.trans (own_below0 (by omega) HO3.out hgrow)); clear hown' hgrow)
    go_ret
    refine ⟨v', rfl, ?_, HB4.out⟩
    rw [HD.out, List.length_append, HL.out, HL4.out, List.map_append]
    exact HO4.out

theorem conv_str {w : World} {B n c : Nat} {A : Option Addr} {bs : List Int} (hl : bs.length = n) (hr : RdI w B .u8 A bs) :
    (convert 22 9 (.slice A n c)).run Tryd.prog w = .ok (.string (strOfNums bs)) w := by
  rcases A with _ | ad
  · obtain rfl : bs = [] := by
      rcases bs with _ | ⟨z, zs⟩
      · rfl
      · obtain ⟨_, e, _⟩ := hr 0 (by simp)
        cases e
    exact run_convert_bytes_nil w 22 5 Tryd.underlying22 Tryd.underlying5 n c 9 Tryd.underlying9
  · have hnews := hr.news n
    rw [List.take_of_length_le (by omega)] at hnews
    have hlc : (loadCells ad n).run Tryd.prog w = .ok (bs.map (Value.int .u8)).toArray w := by
      have := run_loadCells_list (P := Tryd.prog) w ad (bs.map (Value.int .u8)) hnews
      simpa [hl] using this
    rw [run_convert_bytes_string w 22 9 5 _ n c Tryd.underlying22 Tryd.underlying5 Tryd.underlying9, run_bytesToString w _ n c bs hlc, foldl_push_bytes]
    simp [strOfNums, ByteArray.empty, ByteArray.emptyWithCapacity]
    rfl
theorem str_eq {xs bs : List Int} (ha : Byt xs) (hb : Byt bs) : ((strOfNums xs).toList == (strOfNums bs).toList) = decide (xs = bs) := by
  rw [ByteArray.toList_eq, ByteArray.toList_eq, strOfNums_data, strOfNums_data]
  by_cases h : xs = bs
  · rw [h, decide_eq_true rfl]; exact beq_self_eq_true _
  · rw [decide_eq_false h]
    refine beq_eq_false_iff_ne.2 fun e => h ?_
    have key : ∀ l : List Int, Byt l → (l.map fun n => UInt8.ofNat n.toNat).map (fun u : UInt8 => (u.toNat : Int)) = l := fun l hl => by
      rw [List.map_map]
      conv => rhs; rw [← List.map_id l]
      refine List.map_congr_left fun x hx => ?_
      have := hl x hx
      simp only [Function.comp_apply, id, UInt8.toNat_ofNat']
      omega
    rw [← key xs ha, ← key bs hb, e]
/-- What Open says of a slice: the bytes before the checksum, or nothing; the error. -/
def openR (bs : List Int) : List Int × Int := if bs.length < 4 then ([], 6) else if bs.drop (bs.length - 4) = ints (le4 (sum (nats (bs.take (bs.length - 4))))) then (bs.take (bs.length - 4), 0) else ([], 8)
theorem rd_front {w : World} {B : Nat} {k : IntKind} {A : Option Addr} {bs : List Int} (h : RdI w B k A bs) (m : Nat) : RdI w B k A (bs.take m) := fun j hj => by
  have hj' : j < m ∧ j < bs.length := by rw [List.length_take] at hj; omega
  obtain ⟨ad, e, hb, hc⟩ := h j hj'.2
  refine ⟨ad, e, hb, ?_⟩
  rw [hc, List.getElem?_take, if_pos hj'.1]
theorem rd_back {w : World} {B : Nat} {k : IntKind} {ad : Addr} {bs : List Int} (h : RdI w B k (some ad) bs) (m : Nat) : RdI w B k (some (ad.add m)) (bs.drop m) := fun j hj => by
  have hj' : m + j < bs.length := by simp at hj; omega
  obtain ⟨ad', e, hb, hc⟩ := h (m + j) hj'
  cases e
  refine ⟨_, rfl, by rw [add_block]; exact hb, ?_⟩
  have ea : (ad.add m).add j = ad.add (m + j) := by
    unfold Addr.add
    split <;> split <;> simp_all <;> omega
  rw [ea, hc, List.getElem?_drop]

set_option maxRecDepth 100000 in
set_option maxHeartbeats 1000000 in
theorem ropen_any (A : Option Addr) (n c : Nat) (bs : List Int) (w : World) (hl : bs.length = n) (hn : n ≤ 140737488351200) (hc : n ≤ c) (hcm : c ≤ maxLen) (hb : Byt bs) (hrd : RdI w w.heap.size .u8 A bs) :
    Calls Tryd.prog 22 #[.slice A n c] w fun e w' => ∃ Av cv, e = .returned (.tuple #[.slice Av (openR bs).1.length cv, .int .i64 (openR bs).2]) ∧ RdI w' w'.heap.size .u8 Av (openR bs).1 ∧ Below w.heap.size w w' := by
  obtain ⟨i0, hi, hz0, hz1, hz2⟩ := info_parts infoB
  by_cases h4 : n < 4
  · have e : openR bs = ([], 6) := by unfold openR; rw [if_pos (by omega)]
    rw [e]
    have h5 : (n : Int) - 4 < 0 := by omega
    clear e hl hb hrd h4
    go_enter Tryd.func22, Tryd.ntmps22
    go_wp2_with fail
    refine bodyPost_ret (v := .tuple #[.slice none 0 0, .int .i64 6]) (by simp [results, Tryd.results22, go_sem]) rfl ?_
    exact ⟨none, 0, rfl, RdI.nil, Below.refl _ _⟩
  · obtain ⟨m, rfl⟩ : ∃ m, n = m + 4 := ⟨n - 4, by omega⟩
    rcases A with _ | ad
    · obtain ⟨_, e, _⟩ := hrd 0 (by omega)
      cases e
    have hf := rd_front hrd m
    have hk := rd_back hrd m
    have hlf : (bs.take m).length = m := by rw [List.length_take]; omega
    have hlk : (bs.drop m).length = 4 := by rw [List.length_drop]; omega
    have hbf := byt_take hb m
    have hbk : Byt (bs.drop m) := fun x hx => hb x (List.mem_of_mem_drop hx)
    have hopen : openR bs = if bs.drop m = ints (le4 (sum (nats (bs.take m)))) then (bs.take m, 0) else ([], 8) := by
      unfold openR
      rw [if_neg (by omega), show bs.length - 4 = m from by omega]
    have hcm' : c ≤ 9223372036854775807 := hcm
    have HF := Lib.hid hf
    have HK := Lib.hid hk
    have HLF := Lib.hid hlf
    have HLK := Lib.hid hlk
    have HBF := Lib.hid hbf
    have HBK := Lib.hid hbk
    have HOP := Lib.hid hopen
    clear hl hrd hf hk hlf hlk hbf hbk hopen hb h4 hcm
    go_enter Tryd.func22, Tryd.ntmps22
    have hsum : ∀ W1 : World, Below w.heap.size w W1 → Calls Tryd.prog 15 #[.slice (some ad) m c] W1 fun r w' => r = .returned (.int .u32 (sum (nats (bs.take m)))) ∧ w' = W1 := fun W1 h =>
      rsum_any (some ad) m c (bs.take m) W1 HLF.out (by omega) HBF.out ((HF.out.below h).more h.size)
    obtain ⟨d, hd⟩ : ∃ d, sum (nats (bs.take m)) = d := ⟨_, rfl⟩
    have hdl : d < 4294967296 := by rw [← hd]; exact sum_lt _
    rw [hd] at hsum
    have hopen := HOP.out
    rw [hd] at hopen
    have hstr := str_eq (xs := ints (le4 d)) (bs := bs.drop m) (ints_byt (digits_byt 4 d)) HBK.out
    obtain ⟨bq, hbq⟩ : ∃ bq, decide (ints (le4 d) = bs.drop m) = bq := ⟨_, rfl⟩
    rw [hbq] at hstr
    have hl4 : (ints (le4 d)).length = 4 := by rw [ints_len]; exact digits_len 4 d
    have hgo : ∀ W1 : World, Below w.heap.size w W1 → (convert 22 9 (.slice (some (ad.add m)) 4 (c - m))).run Tryd.prog W1 = .ok (.string (strOfNums (bs.drop m))) W1 ∧ Below w.heap.size w W1 := fun W1 h => ⟨conv_str HLK.out (HK.out.below h), h⟩
    have hsum2 : ∀ W1 : World, Below w.heap.size w W1 → Calls Tryd.prog 15 #[.slice (some ad) m c] W1 fun r w' => r = .returned (.int .u32 d) ∧ (convert 22 9 (.slice (some (ad.add m)) 4 (c - m))).run Tryd.prog w' = .ok (.string (strOfNums (bs.drop m))) w' ∧ Below w.heap.size w w' := fun W1 h =>
      (hsum W1 h).mono fun r w' ⟨e, hw⟩ => ⟨e, hgo w' (by rw [hw]; exact h)⟩
    have hby : ∀ W1 : World, Below w.heap.size w W1 → Calls Tryd.prog 40 #[.int .u32 d] W1 fun r w' => ∃ g cv, r = .returned (.slice (some ⟨g, 0, none⟩) 4 cv) ∧ (convert 22 9 (.slice (some ⟨g, 0, none⟩) 4 cv)).run Tryd.prog w' = .ok (.string (strOfNums (ints (le4 d)))) w' ∧ (convert 22 9 (.slice (some (ad.add m)) 4 (c - m))).run Tryd.prog w' = .ok (.string (strOfNums (bs.drop m))) w' ∧ Below w.heap.size w w' := fun W1 h =>
      (rbytes_any d W1 hdl).mono fun r w' ⟨v, e, ho, hB⟩ => by
        have hb2 := hgo w' (h.trans (hB.mono h.size))
        rw [hl4] at ho
        obtain ⟨g, cv, rfl, _, _⟩ := own_form ho (by decide)
        exact ⟨g, cv, e, conv_str hl4 (own_RdI ho), hb2⟩
    obtain ⟨k0, k1⟩ := hgo w.drew (Below.refl _ _).drew
    have HSU := Lib.hid hsum2
    have HBY := Lib.hid hby
    have HBQ := Lib.hid hbq
    have HOP2 := Lib.hid hopen
    clear hsum hsum2 hby hbq hopen hgo hd hdl hl4 HOP
    generalize strOfNums (ints (le4 d)) = s1 at *
    generalize strOfNums (bs.drop m) = s2 at *
    have q0 : (0 : Int) ≤ (m : Int) := by omega
    have q1 : (m : Int) ≤ (c : Int) := by omega
    have q2 : (m : Int) ≤ (m : Int) + 4 := by omega
    have q3 : (m : Int) + 4 ≤ (c : Int) := by omega
    go_upto_region 4 with fail
    go_cut [20] (fun s20 wx => s20 = .bool (!bq) ∧ Below w.heap.size w wx)
    case first =>
      go_region_with (first | (go_at_call 15; refine (HSU.out _ ?_).mono ?_; (assumption); rintro r w7 ⟨rfl, d0, d1⟩) | (go_at_call 40; refine (HBY.out _ ?_).mono ?_; (assumption); rintro r w8 ⟨g, cv, rfl, dd, d0, d1⟩))
      all_goals
        clear k0 k1
        have hb9 := ‹Below w.heap.size w _›
        go_wp2_with fail
        go_meet
        exact ⟨rfl, hb9⟩
    case rest =>
      obtain ⟨rfl, hB⟩ := hcut
      obtain ⟨w1, hw1⟩ : ∃ w1, w1 = wc := ⟨_, rfl⟩
      subst hw1
      have HB := Lib.hid hB
      have hs1 := hB.size
      clear hB k0 k1 hstr
      cases bq
      · have h1 : ¬ bs.drop m = ints (le4 d) := fun h => by have := of_decide_eq_false HBQ.out; exact this h.symm
        have hop := HOP2.out
        rw [if_neg h1] at hop
        have HOP3 := Lib.hid hop
        clear hop h1
        go_wp2_with fail
        refine bodyPost_ret (v := .tuple #[.slice none 0 0, .int .i64 8]) (by simp [results, Tryd.results22, go_sem]) rfl ?_
        rw [HOP3.out]
        exact ⟨none, 0, rfl, RdI.nil, HB.out⟩
      · have h1 : bs.drop m = ints (le4 d) := (of_decide_eq_true HBQ.out).symm
        have hop := HOP2.out
        rw [if_pos h1] at hop
        have HOP3 := Lib.hid hop
        clear hop
        have hBa := (Below.refl w1.heap.size w1).alloc (Nat.le_refl _) (.cells #[] 5)
        have hown : (w1.alloc (.cells #[] 5)).ownsRow w1.heap.size 5 1 (.slice (some ⟨w1.heap.size, 0, none⟩) 0 0) 0 [] := World.ownsRow_made w1 #[] 0 (Nat.le_refl _) (by decide) (by simp)
        have hnews := ((HF.out.below HB.out).below (hBa.mono hs1)).news m
        rw [List.take_of_length_le (by rw [HLF.out]; exact Nat.le_refl _)] at hnews
        have HO := Lib.hid hown
        have HBA := Lib.hid hBa
        have HNW := Lib.hid hnews
        clear hown hBa hnews h1
        go_wp2_with (at_builtin; refine wpList_append_own _ rfl _ _ 22 rfl w1.heap.size 5 i0 (.int .u8 0) 1 1 Tryd.underlying22 hi hz0 hz1 hz2 rfl (by decide) _ _ _ rfl HO.out ad m c ((bs.take m).map (Value.int .u8)) rfl (by rw [List.length_map, HLF.out]; omega) HNW.out (one_cells _ _) (by unfold maxLen; omega) (by omega) (by simp) ?_; intro v' w2 hown' hgrow _; have HO2 := Lib.hid hown'; have HB2 := Lib.hid (HBA.out.trans (own_below0 (by simp) HO.out hgrow)); clear hown' hgrow)
        have ho2 : w2.ownsRow w1.heap.size 5 1 v' m ((bs.take m).map (Value.int .u8)) := by simpa using HO2.out
        obtain ⟨Av, cv, rfl⟩ := own_shape ho2
        have HO3 := Lib.hid ho2
        clear ho2
        refine bodyPost_ret (v := .tuple #[.slice Av m cv, .int .i64 0]) (by simp [results, Tryd.results22, go_sem]) rfl ?_
        rw [HOP3.out]
        exact ⟨Av, cv, by rw [HLF.out], own_RdI HO3.out, HB.out.trans (HB2.out.mono hs1)⟩
end C
end Go.Proofs.YtpkhbglmbdpodaaDoor
