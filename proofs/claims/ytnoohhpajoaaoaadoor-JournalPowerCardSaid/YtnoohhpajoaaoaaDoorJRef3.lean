/-
  Contracts of the specification of layer 7: Size, Rows.
-/
import Derived.Test.YtnoohhpajoaaoaaDoorJRef2
namespace Go.Proofs.YtnoohhpajoaaoaaDoor
open Go.RowKit
namespace J
open H R
set_option linter.unusedVariables false
set_option maxRecDepth 100000
def sizeL (n : Int) : Nat := 16 + (around n 200).toNat
theorem sizeL_le (n : Int) : 16 ≤ sizeL n ∧ sizeL n ≤ 215 := by
  obtain ⟨l, hl, h⟩ := around_nat n (m := 200) (by decide)
  unfold sizeL
  have hl' : around n 200 = (l : Int) := hl
  rw [hl']
  omega
set_option maxHeartbeats 1000000 in
theorem rsize_any (n : Int) (h0 : -9223372036854775808 ≤ n) (h1 : n ≤ 9223372036854775807) (w : World) :
    Calls Tryd.prog 11 #[.int .i64 n] w fun r w' => r = .returned (.int .i64 (sizeL n : Nat)) ∧ w' = w := by
  obtain ⟨l, hl, h200⟩ := around_nat n (m := 200) (by decide)
  have hl' : around n 200 = (l : Int) := hl
  have HA := Lib.hid (around_any n 200 h0 h1 (by decide) (by decide) w)
  rw [hl'] at HA
  have HE : Hid (((sizeL n : Nat) : Int) = 16 + (l : Int)) := Lib.hid (by unfold sizeL; rw [hl']; omega)
  clear hl hl' h0 h1
  go_enter Tryd.func11, Tryd.ntmps11
  go_wp2_with fail
  refine HA.out.mono ?_
  rintro r w1 ⟨rfl, rfl⟩
  go_wp2_with fail
  go_ret
  exact ⟨ret_int HE.out.symm, rfl⟩
/-- One number more. -/
def rowOf (x : Int) : List Nat := recL (around x 12).toNat (around x 1000000).toNat
def rowsStep (n : Nat) (out : List (List Nat)) (x : Int) : List (List Nat) := if errL n (out ++ [rowOf x]) = 0 then out ++ [rowOf x] else out
def rowsL (n : Nat) (l : List Int) : List (List Nat) := (l.take 10).foldl (rowsStep n) []
def rowsN (n : Nat) (l : List Int) (k : Nat) : List (List Nat) := (l.take k).foldl (rowsStep n) []
theorem rowsN_succ (n : Nat) (l : List Int) {k : Nat} {x : Int} (h : l[k]? = some x) : rowsN n l (k + 1) = rowsStep n (rowsN n l k) x := by
  unfold rowsN
  rw [List.take_add_one, h]
  simp
theorem rowOf_len (x : Int) : (rowOf x).length < 12 := by
  obtain ⟨l, hl, h⟩ := around_nat x (m := 12) (by decide)
  have hl' : around x 12 = (l : Int) := hl
  unfold rowOf
  rw [recL_len, hl']
  omega
theorem errL_used {n : Nat} {rows : List (List Nat)} (h : errL n rows = 0) : (usedL rows : Int) ≤ ((n / 2 : Nat) : Int) - 4 := by
  unfold errL at h
  split at h
  · cases h
  · split at h
    · cases h
    · omega
theorem errL_long {n : Nat} {rows : List (List Nat)} (h : errL n rows = 0) : ∀ r ∈ rows, r.length ≤ 64 := by
  unfold errL at h
  split at h
  · cases h
  · next hl =>
    intro r hr
    have h0 : longL rows = false := by simpa using hl
    unfold longL at h0
    rw [List.any_eq_false] at h0
    have := h0 r hr
    simpa using this
theorem errL_intro {n : Nat} {rows : List (List Nat)} (h1 : ∀ r ∈ rows, r.length ≤ 64) (h2 : (usedL rows : Int) ≤ ((n / 2 : Nat) : Int) - 4) : errL n rows = 0 := by
  have hl : longL rows = false := by
    unfold longL
    rw [List.any_eq_false]
    intro r hr
    have := h1 r hr
    simp; omega
  unfold errL
  rw [hl, if_neg (by simp), if_neg (by omega)]
theorem rowsN_err {n : Nat} (hn : 16 ≤ n) (l : List Int) : ∀ k, errL n (rowsN n l k) = 0
  | 0 => errL_intro (fun r hr => by simp [rowsN] at hr) (by simp [rowsN, usedL]; omega)
  | k + 1 => by
    cases hx : l[k]? with
    | none =>
      have : rowsN n l (k + 1) = rowsN n l k := by unfold rowsN; rw [List.take_add_one, hx]; simp
      rw [this]
      exact rowsN_err hn l k
    | some x =>
      rw [rowsN_succ n l hx]
      unfold rowsStep
      split
      · assumption
      · exact rowsN_err hn l k
theorem rowsL_err {n : Nat} (hn : 16 ≤ n) (l : List Int) : errL n (rowsL n l) = 0 := rowsN_err hn l 10
theorem rowsN_lt (n : Nat) (l : List Int) : ∀ k, ∀ r ∈ rowsN n l k, ∀ x ∈ r, x < 4294967296
  | 0, r, hr => by simp [rowsN] at hr
  | k + 1, r, hr => by
    cases hx : l[k]? with
    | none =>
      have e : rowsN n l (k + 1) = rowsN n l k := by unfold rowsN; rw [List.take_add_one, hx]; simp
      rw [e] at hr
      exact rowsN_lt n l k r hr
    | some x =>
      rw [rowsN_succ n l hx] at hr
      unfold rowsStep at hr
      split at hr
      · rcases List.mem_append.1 hr with h | h
        · exact rowsN_lt n l k r h
        · rw [List.mem_singleton.1 h]
          exact recL_lt _ _
      · exact rowsN_lt n l k r hr
theorem rowsL_lt (n : Nat) (l : List Int) : ∀ r ∈ rowsL n l, ∀ x ∈ r, x < 4294967296 := rowsN_lt n l 10
theorem rowsL_short {n : Nat} {l : List Int} {k : Nat} (hk : l.length = k ∨ k = 10) (h10 : k ≤ 10) : rowsN n l k = rowsL n l := by
  unfold rowsN rowsL
  rcases hk with h | h
  · rw [List.take_of_length_le (by omega), List.take_of_length_le (by omega)]
  · rw [h]
set_option maxHeartbeats 4000000 in
theorem rrows_any {w : World} {B : Nat} {A : Option Addr} {c : Nat} {l : List Int} (n : Nat) (hn : 16 ≤ n) (hn2 : n ≤ 1000) (hr : RdI w B .i64 A l) (hB : B ≤ w.heap.size) (hl : l.length ≤ 9223372036854775807) (hi64 : ∀ x ∈ l, -9223372036854775808 ≤ x ∧ x ≤ 9223372036854775807)
    (G : Nat → Prop) (hG : ∀ k, w.heap.size ≤ k → G k) :
    Calls Tryd.prog 18 #[.int .i64 (n : Nat), .slice A l.length c] w fun r w' => ∃ v', r = .returned v' ∧ RR w' G v' (rowsL n l) ∧ Below w.heap.size w w' := by
  have HR := Lib.hid (hr.more hB)
  have HG := Lib.hid hG
  have H64 := Lib.hid hi64
  have HN := Lib.hid hn
  clear hr hB hG hi64 hn
  go_enter Tryd.func18, Tryd.ntmps18
  go_wp2_with fail
  go_loopg [5, 6] 10 (fun g v i wr => ∃ k : Nat, k + g = 10 ∧ k ≤ l.length ∧ i = .int .i64 (k : Nat) ∧ RR wr G v (rowsN n l k) ∧ Below w.heap.size w wr)
  case atStart => exact ⟨0, by omega, Nat.zero_le _, rfl, RR.nil, Below.refl _ _⟩
  case round =>
    obtain ⟨k, hg, hkl, rfl, hrr, hB⟩ := hrel
    have HGG := Lib.hid hg
    have HRR := Lib.hid hrr
    have HB := Lib.hid hB
    clear hg hrr hB
    by_cases hlt : k < l.length
    · have hki : (k : Int) < (l.length : Int) := by omega
      by_cases h10 : k < 10
      · have hki10 : (k : Int) < 10 := by omega
        obtain ⟨ad, rfl, hblk, hx⟩ := HR.out.below HB.out k hlt
        obtain ⟨x, hxk⟩ : ∃ x, l[k]? = some x := ⟨_, List.getElem?_eq_getElem hlt⟩
        rw [hxk] at hx
        simp only [Option.getD_some] at hx
        have hrg := H64.out x (List.mem_of_getElem? hxk)
        obtain ⟨p, hp, hp12⟩ := around_nat x (m := 12) (by decide)
        obtain ⟨q, hq, hq6⟩ := around_nat x (m := 1000000) (by decide)
        have hp' : around x 12 = (p : Int) := hp
        have hq' : around x 1000000 = (q : Int) := hq
        have HA1 := Lib.hid (fun W => around_any x 12 hrg.1 hrg.2 (by decide) (by decide) W)
        have HA2 := Lib.hid (fun W => around_any x 1000000 hrg.1 hrg.2 (by decide) (by decide) W)
        rw [hp'] at HA1
        rw [hq'] at HA2
        have HRO : Hid (rowOf x = recL p q) := Lib.hid (by unfold rowOf; rw [hp', hq']; rfl)
        have ha71 : (around (p : Int) 71).toNat = p := by unfold around; rw [if_neg (by omega), Int.emod_eq_of_lt (by omega) (by omega)]; rfl
        have hwq : IntKind.u32.wrap (q : Int) = (q : Int) := by rw [wrap_u32_nat, Nat.mod_eq_of_lt (by omega)]
        have HRC := Lib.hid (fun (a b : Int) (W : World) (ha : a = (p : Int)) (hb : b = (q : Int)) (hW : wr.heap.size ≤ W.heap.size) => (show Calls Tryd.prog 14 #[.int .i64 a, .int .u32 b] W fun r w' => ∃ v', r = .returned v' ∧ Rd w' G v' (recL p q) ∧ Below W.heap.size W w' from by
          rw [ha, hb]
          have := rrecord_any (p : Int) (by omega) (by omega) q (by omega) W G (fun k hk => HG.out k (Nat.le_trans HB.out.size (Nat.le_trans hW hk)))
          rw [ha71] at this
          exact this))
        have HWQ := Lib.hid hwq
        clear hwq
        have hre := rowsN_err HN.out l k
        have hus := errL_used hre
        have hrl := rows_le_used (rowsN n l k)
        have HLB : Hid ((rowsN n l k).length ≤ 1000000) := Lib.hid (by omega)
        have HUB : Hid (usedL (rowsN n l k) ≤ 1000) := Lib.hid (by omega)
        clear hre hus hrl
        have HXK := Lib.hid hxk
        have HBL := Lib.hid hblk
        clear hp hq hp' hq' ha71 hxk hrg hblk
        go_wp2_with fail
        have hcell : wr.cell? (ad.add k) = some (.int .i64 x) := hx
        have hcb : (ad.add k).block < wr.heap.size := block_lt hcell
        have HCB := Lib.hid hcb
        have HB0 : Hid (Below wr.heap.size wr wr.drew) := Lib.hid (Below.refl _ _).drew
        have hcd : wr.drew.cell? (ad.add k) = some (.int .i64 x) := hcell
        clear hcb hx
        go_region_held3 (fun W => W.cell? (ad.add k) = some (.int .i64 x)) (with_reducible assumption)
          ((first
            | (go_at_call 19; with_reducible refine (HA1.out _).mono ?_; rintro r w7 ⟨rfl, rfl⟩)
            | (go_at_call 19; with_reducible refine (HA2.out _).mono ?_; rintro r w7 ⟨rfl, rfl⟩)
            | (go_at_call 14; refine (HRC.out _ _ wr.drew rfl HWQ.out HB0.out.size).mono ?_; rintro r w8 ⟨v8, rfl, hrd, hb8⟩; have s8 : w8.cell? (ad.add k) = some (.int .i64 x) := (hb8.cell HCB.out).trans hcd)
            | (go_at_call 16; refine (rwith_any (HRR.out.keep (HB0.out.trans hb8)) hrd (fun j hj => HG.out j (Nat.le_trans HB.out.size (Nat.le_trans hb8.size hj))) HLB.out).mono ?_; rintro r w9 ⟨v9, rfl, hrr9, hb9⟩; have s9 : w9.cell? (ad.add k) = some (.int .i64 x) := (hb9.cell (Nat.lt_of_lt_of_le HCB.out hb8.size)).trans s8)))
        have HB9 := Lib.hid ((HB.out.trans (HB0.out.mono HB.out.size)).trans ((hb8.mono HB.out.size).trans (hb9.mono (Nat.le_trans HB.out.size hb8.size))))
        have HR9 := Lib.hid hrr9
        have HRW := Lib.hid (HRR.out.keep (HB0.out.trans (hb8.trans (hb9.mono hb8.size))))
        have HNX := Lib.hid (rowsN_succ n l HXK.out)
        have hun : usedL (rowsN n l k ++ [recL p q]) ≤ 1000000 := by
          have h1 := usedL_snoc (rowsN n l k) (recL p q)
          have h2 := HUB.out
          have h3 := recL_len p q
          omega
        have HER := Lib.hid (rerror_any n (by omega) HR9.out hun)
        have HST : Hid (errL n (rowsN n l k ++ [recL p q]) = 0 → rowsN n l (k + 1) = rowsN n l k ++ [recL p q]) := Lib.hid (fun h => by rw [HNX.out]; unfold rowsStep; rw [HRO.out, if_pos h])
        have HST2 : Hid (errL n (rowsN n l k ++ [recL p q]) ≠ 0 → rowsN n l (k + 1) = rowsN n l k) := Lib.hid (fun h => by rw [HNX.out]; unfold rowsStep; rw [HRO.out, if_neg h])
        clear hb8 hb9 hrd hrr9 s8 s9 hcell hcd hun
        generalize errL n (rowsN n l k ++ [recL p q]) = e at *
        by_cases he : e = 0
        · have he0 : (e == 0) = true := by simp [he]
          have HS := Lib.hid (HST.out he)
          clear he
          go_wp2_with fail
          refine HER.out.mono ?_
          rintro r w10 ⟨rfl, rfl⟩
          go_wp2_with fail
          go_roundg (gk - 1)
          case measure => have := HGG.out; omega
          case rel => exact ⟨k + 1, by have := HGG.out; omega, hlt, by go_num, by rw [HS.out]; exact HR9.out, HB9.out⟩
        · have he0 : (e == 0) = false := by simp [he]
          have HS := Lib.hid (HST2.out he)
          clear he
          go_wp2_with fail
          refine HER.out.mono ?_
          rintro r w10 ⟨rfl, rfl⟩
          go_wp2_with fail
          go_roundg (gk - 1)
          case measure => have := HGG.out; omega
          case rel => exact ⟨k + 1, by have := HGG.out; omega, hlt, by go_num, by rw [HS.out]; exact HRW.out, HB9.out⟩
      · have hki10 : ¬ (k : Int) < 10 := by omega
        have HE : Hid (rowsN n l k = rowsL n l) := Lib.hid (by
          have := HGG.out
          exact rowsL_short (.inr (by omega)) (by omega))
        clear h10
        go_wp2_with fail
        go_ret
        exact ⟨_, rfl, by rw [← HE.out]; exact HRR.out, HB.out⟩
    · have hki : ¬ (k : Int) < (l.length : Int) := by omega
      have HE : Hid (rowsN n l k = rowsL n l) := Lib.hid (by
        have := HGG.out
        exact rowsL_short (.inl (by omega)) (by omega))
      clear hlt
      go_wp2_with fail
      go_ret
      exact ⟨_, rfl, by rw [← HE.out]; exact HRR.out, HB.out⟩
end J
end Go.Proofs.YtnoohhpajoaaoaaDoor
