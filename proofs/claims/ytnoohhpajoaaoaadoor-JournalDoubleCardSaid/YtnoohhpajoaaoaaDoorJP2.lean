/-
  The landed package journal: what a journal is in memory; markOf, capacity, start, Free, split, Records.
-/
import Derived.Test.YtnoohhpajoaaoaaDoorJP1
namespace Go.Proofs.YtnoohhpajoaaoaaDoor
open Go.RowKit
namespace J
open H R M
set_option linter.unusedVariables false
set_option maxRecDepth 100000
/-- What a journal is: its records, the area that holds them, and the slice that it keeps. -/
structure JS where
  rows : List (List Nat)
  a : Nat
  v : Value
def markN (a u : Nat) : Nat := 1785462784 + a * 32768 + u
def startN (n a : Nat) : Nat := 1 + a * (n / 2 - 4)
/-- The words ws of a memory of n words hold the journal s. -/
structure Lay (n : Nat) (ws : Nat → Nat) (s : JS) : Prop where
  ok : errL n s.rows = 0
  area : s.a ≤ 1
  mark : ws 0 = markN s.a (usedL s.rows)
  word : ∀ i x, (flatL s.rows)[i]? = some x → ws (startN n s.a + i) = x
/-- At block bj lies a journal s over the memory at block bm; FR: the further blocks that it reads. -/
structure PJ (w : World) (bj bm : Nat) (vm : Value) (m : Mem) (s : JS) (FR : Nat → Prop) : Prop where
  pm : PM w bm vm m
  blk : w.heap[bj]? = some (.cells #[.pointer (some ⟨bm, 0, none⟩), .int .i64 (s.a : Nat), s.v] 73 (0, 0))
  own : w.ownsRow 0 30 1 s.v (flatL s.rows).length (w32 (flatL s.rows))
  fr : ∀ k, s.v.ownBlock = some k → FR k
  frlt : ∀ k, FR k → k < w.heap.size ∧ k ≠ bj ∧ ¬ FT bm vm k
  off : ¬ FT bm vm bj
  err : errL m.code.length s.rows = 0
  small : ∀ r ∈ s.rows, ∀ x ∈ r, x < 4294967296
  area : s.a ≤ 1
  tab : ¬ FR 0
theorem PJ.lt {w : World} {bj bm : Nat} {vm : Value} {m : Mem} {s : JS} {FR : Nat → Prop} (h : PJ w bj bm vm m s FR) : bj < w.heap.size ∧ ∀ k, FR k → k < w.heap.size := ⟨blk_lt h.blk, fun k hk => (h.frlt k hk).1⟩
theorem PJ.apart {w : World} {bj bm : Nat} {vm : Value} {m : Mem} {s : JS} {FR : Nat → Prop} (h : PJ w bj bm vm m s FR) : ¬ FT bm vm bj ∧ ∀ k, FR k → k ≠ bj ∧ ¬ FT bm vm k := ⟨h.off, fun k hk => (h.frlt k hk).2⟩
theorem PJ.keepit {w w' : World} {bj bm : Nat} {vm : Value} {m m' : Mem} {s : JS} {FR F : Nat → Prop} (h : PJ w bj bm vm m s FR) (hp : PM w' bm vm m') (hs : Save F w w') (hF : ∀ k, F k → k ≠ bj ∧ ¬ FR k) (hl : m'.code.length = m.code.length) : PJ w' bj bm vm m' s FR := by
  have hlt := h.lt
  refine ⟨hp, (hs.block bj hlt.1 fun e => (hF bj e).1 rfl).trans h.blk, own_as h.own fun k hk => hs.block k (hlt.2 k (h.fr k hk)) fun e => (hF k e).2 (h.fr k hk), h.fr, fun k hk => ⟨Nat.lt_of_lt_of_le (hlt.2 k hk) hs.size, (h.frlt k hk).2⟩, h.off, by rw [hl]; exact h.err, h.small, h.area, h.tab⟩
theorem PJ.mem {w w' : World} {bj bm : Nat} {vm : Value} {m m' : Mem} {s : JS} {FR : Nat → Prop} (h : PJ w bj bm vm m s FR) (hp : PM w' bm vm m') (hs : Save (FT bm vm) w w') (hl : m'.code.length = m.code.length) : PJ w' bj bm vm m' s FR :=
  h.keepit hp hs (fun k hk => ⟨fun e => h.off (e ▸ hk), fun e => (h.apart.2 k e).2 hk⟩) hl
theorem PJ.save {w w' : World} {bj bm : Nat} {vm : Value} {m : Mem} {s : JS} {FR F : Nat → Prop} (h : PJ w bj bm vm m s FR) (hs : Save F w w') (hF : ∀ k, F k → k ≠ bj ∧ ¬ FT bm vm k ∧ ¬ FR k) : PJ w' bj bm vm m s FR :=
  h.keepit (h.pm.save hs fun k hk hf => (hF k hf).2.1 hk) hs (fun k hk => ⟨(hF k hk).1, (hF k hk).2.2⟩) rfl
theorem PJ.drewN {w : World} {bj bm : Nat} {vm : Value} {m : Mem} {s : JS} {FR : Nat → Prop} (h : PJ w bj bm vm m s FR) (n : Nat) : PJ (w.drewN n) bj bm vm m s FR := h.save (F := fun _ => False) ((Save.refl _ w).drewN n) fun k hk => hk.elim
/-! ### Small contracts -/
theorem u32_low (x : Int) (k : Nat) (hk : k ≤ 32) : bits .and .u32 x ((2 ^ k - 1 : Nat) : Int) = ((x % (4294967296 : Int)).toNat % 2 ^ k : Nat) := by
  have h1 : (BitVec.ofInt 32 ((2 ^ k - 1 : Nat) : Int)).toNat = 2 ^ k - 1 := by
    rw [BitVec.toNat_ofInt]
    have := Nat.pow_le_pow_right (n := 2) (by decide) hk
    have : 2 ^ k - 1 < 4294967296 := by omega
    omega
  have key : (BitVec.ofInt 32 x &&& BitVec.ofInt 32 ((2 ^ k - 1 : Nat) : Int)).toNat = (x % (4294967296 : Int)).toNat % 2 ^ k := by
    rw [BitVec.toNat_and, BitVec.toNat_ofInt, h1, Nat.and_two_pow_sub_one_eq_mod]
    rfl
  show IntKind.u32.wrap ((BitVec.ofInt 32 x &&& BitVec.ofInt 32 ((2 ^ k - 1 : Nat) : Int)).toNat : Nat) = _
  rw [key, wrap_u32_nat]
  have : (x % (4294967296 : Int)).toNat % 2 ^ k ≤ (x % (4294967296 : Int)).toNat := Nat.mod_le _ _
  rw [Nat.mod_eq_of_lt (by omega)]
theorem or_mark {a u : Nat} (ha : a ≤ 1) (hu : u < 32768) : bits .or .u32 (bits .or .u32 1785462784 ((a * 32768 : Nat) : Int)) (u : Int) = ((markN a u : Nat) : Int) := by
  have h1 : (1785462784 + a * 32768) ||| u = 1785462784 + a * 32768 + u := by
    have : 1785462784 + a * 32768 = 2 ^ 15 * (54488 + a) := by omega
    rw [this, Nat.two_pow_add_eq_or_of_lt hu]
  have h0 : bits .or .u32 1785462784 ((a * 32768 : Nat) : Int) = ((1785462784 + a * 32768 : Nat) : Int) := by
    rcases Nat.le_one_iff_eq_zero_or_eq_one.1 ha with rfl | rfl <;> decide
  rw [h0]
  unfold markN
  rw [← h1]
  exact u32_or_nat _ _ (by omega) (by omega)
set_option maxHeartbeats 1000000 in
theorem pmark_any {a u : Nat} (ha : a ≤ 1) (hu : u < 32768) (w : World) :
    Calls Tryd.prog 51 #[.int .i64 (a : Nat), .int .i64 (u : Nat)] w fun r w' => r = .returned (.int .u32 ((markN a u : Nat) : Int)) ∧ w' = w := by
  have hwu : IntKind.u32.wrap (u : Int) = (u : Int) := by rw [wrap_u32_nat, Nat.mod_eq_of_lt (by omega)]
  have hor := or_mark ha hu
  rcases Nat.le_one_iff_eq_zero_or_eq_one.1 ha with rfl | rfl
  · have hor2 : bits .or .u32 (bits .or .u32 1785462784 0) (u : Int) = ((markN 0 u : Nat) : Int) := hor
    clear hor ha hu
    generalize markN 0 u = q at *
    go_enter Tryd.func51, Tryd.ntmps51
    go_wp2_with fail
    go_ret
    exact ⟨rfl, rfl⟩
  · have hor2 : bits .or .u32 (bits .or .u32 1785462784 32768) (u : Int) = ((markN 1 u : Nat) : Int) := hor
    clear hor ha hu
    generalize markN 1 u = q at *
    go_enter Tryd.func51, Tryd.ntmps51
    go_wp2_with fail
    go_ret
    exact ⟨rfl, rfl⟩
set_option maxHeartbeats 1000000 in
theorem pcap_any {w : World} {bj bm : Nat} {vm : Value} {m : Mem} {x y : Value} (hp : PM w bm vm m) (hm : m.ok) (hb : w.heap[bj]? = some (.cells #[.pointer (some ⟨bm, 0, none⟩), x, y] 73 (0, 0))) :
    Calls Tryd.prog 39 #[.pointer (some ⟨bj, 0, none⟩)] w fun r w' => r = .returned (.int .i64 (((m.code.length / 2 : Nat) : Int) - 4)) ∧ w' = w := by
  have HL := Lib.hid (plen_any hp)
  have c0 := blk_cell hb 0
  simp only [List.getElem?_toArray, List.getElem?_cons_zero] at c0
  have hn := hm.most
  have hd : ((m.code.length : Int)).tdiv 2 = ((m.code.length / 2 : Nat) : Int) := by rw [Int.tdiv_eq_ediv_of_nonneg (by omega)]; push_cast; rfl
  have h2 : m.code.length / 2 ≤ 1000000 := by omega
  clear hp hm hb hn
  generalize m.code.length / 2 = q at *
  generalize m.code.length = n at *
  go_enter Tryd.func39, Tryd.ntmps39
  go_wp2_with fail
  refine HL.out.mono ?_
  rintro r w1 ⟨rfl, rfl⟩
  go_wp2_with fail
  go_ret
  exact ⟨rfl, rfl⟩
set_option maxHeartbeats 1000000 in
theorem pstart_any {w : World} {bj bm : Nat} {vm : Value} {m : Mem} {x y : Value} (hp : PM w bm vm m) (hm : m.ok) (h8 : 8 ≤ m.code.length) (hb : w.heap[bj]? = some (.cells #[.pointer (some ⟨bm, 0, none⟩), x, y] 73 (0, 0))) {a : Nat} (ha : a ≤ 1) :
    Calls Tryd.prog 52 #[.pointer (some ⟨bj, 0, none⟩), .int .i64 (a : Nat)] w fun r w' => r = .returned (.int .i64 (startN m.code.length a : Nat)) ∧ w' = w := by
  have HC := Lib.hid (pcap_any hp hm hb)
  have hn := hm.most
  have hq : ((m.code.length / 2 : Nat) : Int) - 4 = ((m.code.length / 2 - 4 : Nat) : Int) := by omega
  rw [hq] at HC
  have h2 : m.code.length / 2 - 4 ≤ 1000000 := by omega
  have HS : Hid (startN m.code.length a = 1 + a * (m.code.length / 2 - 4)) := Lib.hid rfl
  clear hp hm hb hn hq h8
  generalize m.code.length / 2 - 4 = q at *
  generalize startN m.code.length a = st at *
  rcases Nat.le_one_iff_eq_zero_or_eq_one.1 ha with rfl | rfl
  · go_enter Tryd.func52, Tryd.ntmps52
    go_wp2_with fail
    refine HC.out.mono ?_
    rintro r w1 ⟨rfl, rfl⟩
    go_wp2_with fail
    go_ret
    exact ⟨ret_int (by have := HS.out; omega), rfl⟩
  · go_enter Tryd.func52, Tryd.ntmps52
    go_wp2_with fail
    refine HC.out.mono ?_
    rintro r w1 ⟨rfl, rfl⟩
    go_wp2_with fail
    go_ret
    exact ⟨ret_int (by have := HS.out; omega), rfl⟩
set_option maxHeartbeats 1000000 in
theorem pfree_all {w : World} {bj bm : Nat} {vm : Value} {m : Mem} {s : JS} {FR : Nat → Prop} (h : PJ w bj bm vm m s FR) (hm : m.ok) :
    Calls Tryd.prog 28 #[.pointer (some ⟨bj, 0, none⟩)] w fun r w' => r = .returned (.int .i64 (freeL m.code.length s.rows)) ∧ ∃ n, w' = w.drewN n := by
  have HC := Lib.hid (fun n => pcap_any (h.pm.drewN n) hm (x := .int .i64 (s.a : Nat)) (y := s.v) (show (w.drewN n).heap[bj]? = _ from h.blk))
  have hu := errL_used h.err
  have hn := hm.most
  obtain ⟨A, c, hv⟩ := own_shape h.own
  have c2 := blk_cell h.blk 2
  simp only [List.getElem?_toArray, List.getElem?_cons_succ, List.getElem?_cons_zero] at c2
  rw [hv, flatL_len] at c2
  have hq1 : m.code.length / 2 ≤ 1000000 := by omega
  have hs : usedL s.rows ≤ 1000000 := by omega
  have HF : Hid (freeL m.code.length s.rows = max (-1) (min 64 (((m.code.length / 2 : Nat) : Int) - 4 - usedL s.rows - 1))) := Lib.hid rfl
  clear h hm hn hv
  generalize m.code.length / 2 = q at *
  generalize usedL s.rows = t at *
  have hw1 : IntKind.i64.wrap ((q : Int) - 4 - (t : Int)) = (q : Int) - 4 - (t : Int) := by rw [IntKind.wrap_i64]; omega
  have hw2 : IntKind.i64.wrap ((q : Int) - 4 - (t : Int) - 1) = (q : Int) - 4 - (t : Int) - 1 := by rw [IntKind.wrap_i64]; omega
  go_enter Tryd.func28, Tryd.ntmps28
  go_wp2_with fail
  go_region_held3 (fun W => W.cell? ⟨bj, 2, none⟩ = some (.slice A t c)) (first | assumption | go_keep)
    ((first | (go_at_call 39; refine (HC.out _).mono ?_; rintro r w2 ⟨rfl, rfl⟩)))
  go_wp2_with fail
  all_goals
    go_ret
    refine ⟨?_, _, rfl⟩
    rw [HF.out]
    refine ret_int ?_
    omega
theorem pfree_any {w : World} {bj bm : Nat} {vm : Value} {m : Mem} {s : JS} {FR : Nat → Prop} (h : PJ w bj bm vm m s FR) (hm : m.ok) (hs : usedL s.rows ≤ 1000) :
    Calls Tryd.prog 28 #[.pointer (some ⟨bj, 0, none⟩)] w fun r w' => r = .returned (.int .i64 (freeL m.code.length s.rows)) ∧ ∃ n, w' = w.drewN n := pfree_all h hm
end J
end Go.Proofs.YtnoohhpajoaaoaaDoor
