/-
  The examples of the chapter.
-/
import Derived.Test.YtobbnbelacncjaaPwSrv
import Derived.Test.YtobbnbelacncjaaPwPSt
import Derived.Test.YtobbnbelacncjaaPwPCk
namespace Go.Proofs.Ytobbnbelacncjaa
open Go.RowKit
namespace Pw
open H
set_option linter.unusedVariables false
set_option linter.unusedSimpArgs false
set_option maxRecDepth 100000
def l3 : List Ld := [⟨1, 15, 0, true⟩, ⟨2, 20, 5, false⟩, ⟨3, 10, 7, false⟩]
def tb1 : List Q.Wn := [⟨3, 0, 0, 10, 14, 0⟩]
abbrev cl12 : Array Value := #[.int .i64 1, .int .i64 15, .int .i64 0, .bool true, .int .i64 2, .int .i64 20, .int .i64 5, .bool false, .int .i64 3, .int .i64 10, .int .i64 7, .bool false]
abbrev cw6 : Array Value := #[.int .i64 3, .int .i64 0, .int .i64 0, .int .i64 10, .int .i64 14, .int .i64 0]
structure Lv (w : World) (W : World) : Prop where
  bat : W.heap[w.heap.size]? = some (.cells #[.int .i64 100, .int .i64 50, .int .i64 20] 23 (0, 0))
  row : W.heap[w.heap.size + 1]? = some (.cells cl12 41 (0, 0))
  lt : w.heap.size + 1 + 1 ≤ W.heap.size
  bel : Below w.heap.size w W
theorem Lv.call {w W V : World} (h : Lv w W) (hB : Below W.heap.size W V) : Lv w V := ⟨heap_keep hB h.bat, heap_keep hB h.row, Nat.le_trans h.lt hB.size, bt h.bel hB⟩
theorem Lv.rds {w W : World} (h : Lv w W) : RdsLd W (w.heap.size + 1 + 1) (some ⟨w.heap.size + 1, 0, none⟩) l3 := by
  have ht := h.row
  intro j x hx
  match j, hx with
  | 0, hx => obtain rfl := Option.some.inj hx; refine ⟨_, rfl, Nat.lt_succ_self _, ?_⟩; rw [ad_add]; constructor <;> simp [World.cell?, ht]
  | 1, hx => obtain rfl := Option.some.inj hx; refine ⟨_, rfl, Nat.lt_succ_self _, ?_⟩; rw [ad_add]; constructor <;> simp [World.cell?, ht]
  | 2, hx => obtain rfl := Option.some.inj hx; refine ⟨_, rfl, Nat.lt_succ_self _, ?_⟩; rw [ad_add]; constructor <;> simp [World.cell?, ht]
  | j + 3, hx => simp [l3] at hx
theorem l3_pow : ∀ x ∈ l3, 0 ≤ x.pow ∧ x.pow ≤ 2147483647 := by
  intro x hx
  simp [l3] at hx
  rcases hx with rfl | rfl | rfl <;> decide
theorem l3_dif : Dif l3 := by unfold Dif l3; simp
theorem tb1_tok : ∀ x ∈ tb1, Q.Tok x := by
  intro x hx
  simp [tb1] at hx
  rcases hx with rfl <;> constructor <;> decide
theorem tb1_srt : SrtF tb1 := by
  intro i j x y hij hi hj
  have h1 := (List.getElem?_eq_some_iff.1 hj).1
  simp [tb1] at h1
  omega
theorem nil_srt : SrtF [] := by
  intro i j x y hij hi hj
  simp at hi
structure Lt (b : Nat) (W : World) : Prop where
  tab : W.heap[b]? = some (.cells cw6 77 (0, 0))
theorem Lt.call {b : Nat} {W V : World} (h : Lt b W) (hB : Below W.heap.size W V) : Lt b V := ⟨heap_keep hB h.tab⟩
theorem Lt.rds {b : Nat} {W : World} (h : Lt b W) : Q.RdsWn W W.heap.size (some ⟨b, 0, none⟩) tb1 := by
  have ht := h.tab
  intro j x hx
  match j, hx with
  | 0, hx => obtain rfl := Option.some.inj hx; refine ⟨_, rfl, hlt_of ht, ?_⟩; rw [ad_add]; constructor <;> simp [World.cell?, ht]
  | j + 1, hx => simp [tb1] at hx
set_option maxHeartbeats 1000000 in
theorem shadow_any (w : World) : Calls Try.prog 32 #[] w fun e w' => e = .returned (.slice (some ⟨w.heap.size, 0, none⟩) 1 1) ∧ w' = w.alloc (.cells cw6 77) := by
  go_enter Try.func32, Try.ntmps32
  go_wp2_with fail
  go_ret
  exact ⟨rfl, rfl⟩
theorem tick_e1 : tickS ⟨100, 50, 20⟩ 10 l3 = ⟨35, 25, [1, 3], false⟩ := by rfl
theorem tick_e2 : tickS ⟨10, 8, 0⟩ 5 l3 = ⟨0, 10, [3], true⟩ := by rfl
theorem tb1_any (a f : Int) (b : Nat) (W : World) (hf : 0 ≤ f ∧ f ≤ 1000001) (ht : Lt b W) : Calls Try.prog 24 #[.slice (some ⟨b, 0, none⟩) 1 1, .int .i64 a, .int .i64 f, .int .i64 5, .int .i64 8] W fun o w' => o = .returned (.int .i64 (need tb1 a 5 8 f)) ∧ Below W.heap.size W w' :=
  preserve_any tb1 (some ⟨b, 0, none⟩) 1 W.heap.size a f 5 8 W (Nat.le_refl _) (by decide) hf (by decide) (by decide) tb1_tok tb1_srt ht.rds
theorem tb1_sv (c : Int) (b : Nat) (W : World) (hc : 0 ≤ c ∧ c ≤ 30) (ht : Lt b W) : Calls Try.prog 29 #[.agg #[.int .i64 30, .int .i64 c, .int .i64 0], .slice (some ⟨b, 0, none⟩) 1 1, .int .i64 0, .int .i64 10, .int .i64 14, .int .i64 5, .int .i64 8] W fun o w' => o = .returned (.bool (sv tb1 0 5 8 30 10 c (14 - 10 : Int).toNat).isSome) ∧ Below W.heap.size W w' :=
  psurv_any ⟨30, c, 0⟩ tb1 (some ⟨b, 0, none⟩) 1 W.heap.size 0 10 14 5 8 W (Nat.le_refl _) (by decide) ⟨(by decide : (30 : Int) ≤ 2147483647), hc.1, hc.2⟩ (by decide) (by decide) (by decide) (by decide) tb1_tok tb1_srt ht.rds
theorem Lv.s {w W : World} (h : Lv w W) : (W.cell? ⟨w.heap.size, 0, none⟩ = some (.int .i64 100) ∧ W.cell? ⟨w.heap.size, 1, none⟩ = some (.int .i64 50) ∧ W.cell? ⟨w.heap.size, 2, none⟩ = some (.int .i64 20)) ∧ W.cell? ⟨w.heap.size + 1, 0, none⟩ = some (.int .i64 1) ∧ W.cell? ⟨w.heap.size + 1, 1, none⟩ = some (.int .i64 15) ∧ W.cell? ⟨w.heap.size + 1, 2, none⟩ = some (.int .i64 0) ∧ W.cell? ⟨w.heap.size + 1, 3, none⟩ = some (.bool true) := by
  have h1 := h.bat
  have h2 := h.row
  refine ⟨⟨?_, ?_, ?_⟩, ?_, ?_, ?_, ?_⟩ <;> first | (rw [cell_obj h1]; rfl) | (rw [cell_obj h2]; rfl)
theorem Lv.rowc {w W : World} (h : Lv w W) : ∀ j u, (flat4 l3)[j]? = some u → W.cell? ⟨w.heap.size + 1, j, none⟩ = some u := by
  intro j u hu
  rw [cell_obj h.row, ← hu, show cl12 = (flat4 l3).toArray from rfl]
  simp
theorem made65 : (madeCells (Value.agg #[.int .i64 0, .int .i64 0, .int .i64 0, .bool false]).cells (65 * 4)).toList = flat4 (List.replicate 65 ⟨0, 0, 0, false⟩) := by kernel_rfl
theorem own_cap {w : World} {b n c : Nat} {e : TypeId} {A : Option Addr} {xs : List Value} (h : w.ownsRow b e 4 (.slice A n c) n xs) (hn : 0 < n) : n ≤ c ∧ c ≤ maxLen := by
  obtain ⟨_, ⟨_, h0⟩ | ⟨g, cap, cur, hv, _, _, h1, h2, _⟩⟩ := h
  · omega
  · injection hv with _ _ e3
    subst e3
    exact ⟨h1, h2⟩
theorem wp_append_full {P : Program} {o : Oper} {a : Act} {w : World} {K : Act → World → Prop} {Q : Exit → Act → World → Prop} (s x : Operand) (t : TypeId) (hop : o.op = Op.call { callee := Callee.builtin Builtin.append, args := #[s, x], argTypes := #[t, t] })
    (e : TypeId) (i : TypeInfo) (z : Value) (size bytes : Nat) (h1 : P.underlying t = some (.slice e)) (h2 : P.info? e = some i) (h3 : i.zero = some z) (h4 : i.size = size) (h5 : i.bytes = bytes) (h6 : z.cells.size = size) (h7 : 0 < size)
    (b : Addr) (n cap : Nat) (olds : List Value) (hs : a.eval s = .slice (some b) n cap) (hlo : olds.length = n * size) (holds : ∀ j u, olds[j]? = some u → w.cell? (b.add j) = some u)
    (ad : Addr) (m c : Nat) (news : List Value) (hx : a.eval x = .slice (some ad) m c) (hn : news.length = m * size) (hc : ∀ j u, news[j]? = some u → w.cell? (ad.add j) = some u) (h1c : ∀ u ∈ news, u.oneCell' = true)
    (hfull : cap < n + m) (b1 : n + m ≤ maxLen) (b2 : (n + m) * bytes ≤ 140737488355328)
    (hK : ∀ v' w', w'.ownsRow w.heap.size e size v' (n + m) (olds ++ news) → w.grownBy w' none → K (a.put o.dst v') w') : Oper.wp P o a w K Q := by
  obtain ⟨v', w', hrun, r1, r2⟩ := run_append_arg_grows (P := P) w t o.type e i z size bytes h1 h2 h3 h4 h5 h6 h7 b n cap olds hlo holds ad m c news hn hc hfull b1 b2
  unfold Oper.wp
  simp [execOp, hop, resolve, invoke, builtin, hs, hx, hrun, Result.andThen]
  exact hK v' w' r1 r2
theorem wp_make {P : Program} {o : Oper} {a : Act} {w : World} {K : Act → World → Prop} {Q : Exit → Act → World → Prop} (t : TypeId) (l c : Operand) (hop : o.op = Op.makeSlice t l c) (v : Value) (w' : World) (hr : (Instr.makeSlice t (a.eval l) (a.eval c)).run P w = .ok v w') (hK : K (a.put o.dst v) w') : Oper.wp P o a w K Q := by
  unfold Oper.wp
  simp [execOp, hop, hr, Result.andThen]
  exact hK
theorem nilr_any (W : World) : Calls Try.prog 24 #[.slice none 0 0, .int .i64 0, .int .i64 0, .int .i64 5, .int .i64 0] W fun o w' => o = .returned (.int .i64 0) ∧ Below W.heap.size W w' :=
  preserve_any [] none 0 0 0 0 5 0 W (Nat.zero_le _) (by decide) (by decide) (by decide) (by decide) (fun x hx => by cases hx) nil_srt (fun j x hx => by simp at hx)
set_option maxHeartbeats 8000000 in
theorem lives_any (w : World) : Calls Try.prog 12 #[] w fun e w' => e = .returned (.bool true) ∧ Below w.heap.size w w' := by
  have HS1 : Hid (∀ W, Lv w W → Calls Try.prog 18 #[.agg #[.int .i64 100, .int .i64 50, .int .i64 20], .int .i64 10, .slice (some ⟨w.heap.size + 1, 0, none⟩) 3 3] W fun e w' => ∃ (A1 : Addr) (c1 : Nat), e = .returned (.tuple #[.agg #[.int .i64 100, .int .i64 35, .int .i64 20], .agg #[.int .i64 10, .int .i64 25, .int .i64 0, .slice (some A1) 2 c1, .bool false]]) ∧ (w'.cell? A1 = some (.int .i64 1) ∧ w'.cell? (A1.add 1) = some (.int .i64 3)) ∧ Below W.heap.size W w') := Lib.hid (fun W hW => by
    refine (pstep_any ⟨100, 50, 20⟩ 10 l3 (some ⟨w.heap.size + 1, 0, none⟩) 3 (w.heap.size + 1 + 1) W hW.lt (by decide) (by decide) (by decide) l3_pow hW.rds l3_dif).mono ?_
    rintro e w' ⟨A1, c1, rfl, hr, hB⟩
    rw [tick_e1] at hr ⊢
    obtain ⟨ad, rfl, _, h0⟩ := hr 0 (by decide)
    obtain ⟨ad', e2, _, h1⟩ := hr 1 (by decide)
    cases e2
    exact ⟨ad, c1, rfl, ⟨h0, h1⟩, hB⟩)
  have HS2 : Hid (∀ W, Lv w W → Calls Try.prog 18 #[.agg #[.int .i64 10, .int .i64 8, .int .i64 0], .int .i64 5, .slice (some ⟨w.heap.size + 1, 0, none⟩) 3 3] W fun e w' => ∃ (A1 : Addr) (c1 : Nat), e = .returned (.tuple #[.agg #[.int .i64 10, .int .i64 0, .int .i64 0], .agg #[.int .i64 2, .int .i64 10, .int .i64 3, .slice (some A1) 1 c1, .bool true]]) ∧ w'.cell? A1 = some (.int .i64 3) ∧ Below W.heap.size W w') := Lib.hid (fun W hW => by
    refine (pstep_any ⟨10, 8, 0⟩ 5 l3 (some ⟨w.heap.size + 1, 0, none⟩) 3 (w.heap.size + 1 + 1) W hW.lt (by decide) (by decide) (by decide) l3_pow hW.rds l3_dif).mono ?_
    rintro e w' ⟨A1, c1, rfl, hr, hB⟩
    rw [tick_e2] at hr ⊢
    obtain ⟨ad, rfl, _, h0⟩ := hr 0 (by decide)
    exact ⟨ad, c1, rfl, h0, hB⟩)
  have HSH := Lib.hid (fun W => shadow_any W)
  have HRS := Lib.hid (fun (a f : Int) {b : Nat} (W : World) (hf : 0 ≤ f ∧ f ≤ 1000001) (ht : Lt b W) => tb1_any a f b W hf ht)
  have HRN := Lib.hid (fun W => nilr_any W)
  have HSV := Lib.hid (fun (c : Int) {b : Nat} (W : World) (ht : Lt b W) (hc : 0 ≤ c ∧ c ≤ 30) => tb1_sv c b W hc ht)
  have E1 : Hid (need tb1 0 5 8 9 = 17) := Lib.hid (by rfl)
  have E2 : Hid (need tb1 0 5 8 10 = 20) := Lib.hid (by rfl)
  have E3 : Hid (need tb1 0 5 8 3 = 0) := Lib.hid (by rfl)
  have E4 : Hid (need tb1 0 5 8 12 = 10) := Lib.hid (by rfl)
  have E5 : Hid (need tb1 0 5 8 14 = 0) := Lib.hid (by rfl)
  have E6 : Hid (need tb1 1 5 8 10 = 0) := Lib.hid (by rfl)
  have E7 : Hid ((sv tb1 0 5 8 30 10 20 (14 - 10 : Int).toNat).isSome = true) := Lib.hid (by rfl)
  have E8 : Hid ((sv tb1 0 5 8 30 10 19 (14 - 10 : Int).toNat).isSome = false) := Lib.hid (by rfl)
  have HES : Hid (∀ W, Lv w W → Calls Try.prog 16 #[.slice (some ⟨w.heap.size + 1, 0, none⟩) 3 3] W fun e w' => e = .returned (.int .i64 15) ∧ Below W.heap.size W w') := Lib.hid (fun W hW => pess_any l3 (some ⟨w.heap.size + 1, 0, none⟩) 3 (w.heap.size + 1 + 1) W hW.lt (by decide) l3_pow hW.rds)
  have HC1 : Hid (∀ W, Lv w W → Calls Try.prog 14 #[.agg #[.int .i64 100, .int .i64 50, .int .i64 20], .slice (some ⟨w.heap.size + 1, 0, none⟩) 3 3] W fun e w' => e = .returned (.int .i64 0) ∧ Below W.heap.size W w') := Lib.hid (fun W hW => pcheck_any ⟨100, 50, 20⟩ l3 (some ⟨w.heap.size + 1, 0, none⟩) 3 (w.heap.size + 1 + 1) W hW.lt (by decide) hW.rds)
  have HC2 : Hid (∀ W, Lv w W → Calls Try.prog 14 #[.agg #[.int .i64 1, .int .i64 2, .int .i64 0], .slice (some ⟨w.heap.size + 1, 0, none⟩) 3 3] W fun e w' => e = .returned (.int .i64 5) ∧ Below W.heap.size W w') := Lib.hid (fun W hW => pcheck_any ⟨1, 2, 0⟩ l3 (some ⟨w.heap.size + 1, 0, none⟩) 3 (w.heap.size + 1 + 1) W hW.lt (by decide) hW.rds)
  have HC3 : Hid (∀ W A c, RdsLd W W.heap.size A [⟨1, 15, 0, true⟩, ⟨2, 20, 5, false⟩, ⟨3, 10, 7, false⟩, ⟨1, 15, 0, true⟩] → 4 ≤ c ∧ c ≤ maxLen → Calls Try.prog 14 #[.agg #[.int .i64 100, .int .i64 50, .int .i64 20], .slice A 4 c] W fun e w' => e = .returned (.int .i64 4) ∧ Below W.heap.size W w') := Lib.hid (fun W A c hr hc => pcheck_any ⟨100, 50, 20⟩ [⟨1, 15, 0, true⟩, ⟨2, 20, 5, false⟩, ⟨3, 10, 7, false⟩, ⟨1, 15, 0, true⟩] A c W.heap.size W (Nat.le_refl _) ⟨hc.1, hc.2⟩ hr)
  have HC4 : Hid (∀ W A, RdsLd W W.heap.size A (List.replicate 65 ⟨0, 0, 0, false⟩) → Calls Try.prog 14 #[.agg #[.int .i64 100, .int .i64 50, .int .i64 20], .slice A 65 65] W fun e w' => e = .returned (.int .i64 2) ∧ Below W.heap.size W w') := Lib.hid (fun W A hr => pcheck_any ⟨100, 50, 20⟩ (List.replicate 65 ⟨0, 0, 0, false⟩) A 65 W.heap.size W (Nat.le_refl _) (by decide) hr)
  obtain ⟨i0, hi, hz0, hz1, hz2⟩ := info_parts infoL
  have N0 : Lv w ((w.alloc (.cells #[.int .i64 100, .int .i64 50, .int .i64 20] 23)).alloc (.cells cl12 41)) := ⟨heap_keep (bel1 _ _) (heap_top w _), by have h := heap_top (w.alloc (.cells #[.int .i64 100, .int .i64 50, .int .i64 20] 23)) (.cells cl12 41); rwa [World.size_alloc] at h, by simp, bel2 w _ _⟩
  have HN0 := Lib.hid N0
  clear N0
  go_enter Try.func12, Try.ntmps12
  go_upto_region 3 with fail
  generalize (w.alloc (.cells #[.int .i64 100, .int .i64 50, .int .i64 20] 23)).alloc (.cells cl12 41) = W0 at *
  have b0 : W0.cell? ⟨w.heap.size, 0, none⟩ = some (.int .i64 100) := by rw [cell_obj HN0.out.bat]; rfl
  have b1 : W0.cell? ⟨w.heap.size, 1, none⟩ = some (.int .i64 50) := by rw [cell_obj HN0.out.bat]; rfl
  have b2 : W0.cell? ⟨w.heap.size, 2, none⟩ = some (.int .i64 20) := by rw [cell_obj HN0.out.bat]; rfl
  go_upto_region 4 with (go_at_call 18; with_reducible refine (HS1.out _ HN0.out).mono ?_; rintro e w1 ⟨A1, c1, rfl, ⟨a0, a1⟩, hB1⟩; have N1 := Lib.hid (HN0.out.call hB1); clear hB1)
  clear b0 b1 b2
  obtain ⟨W2, hW2⟩ : ∃ W2, W2 = (w1.alloc (.cells #[.int .i64 100, .int .i64 35, .int .i64 20] 23)).alloc (.cells #[.int .i64 10, .int .i64 25, .int .i64 0, .slice (some A1) 2 c1, .bool false] 33) := ⟨_, rfl⟩
  rw [← hW2]
  have k0 : W2.heap[w1.heap.size]? = some (.cells #[.int .i64 100, .int .i64 35, .int .i64 20] 23 (0, 0)) := by rw [hW2]; exact heap_keep (bel1 _ _) (heap_top w1 _)
  have k1 : W2.heap[w1.heap.size + 1]? = some (.cells #[.int .i64 10, .int .i64 25, .int .i64 0, .slice (some A1) 2 c1, .bool false] 33 (0, 0)) := by rw [hW2]; have h := heap_top (w1.alloc (.cells #[.int .i64 100, .int .i64 35, .int .i64 20] 23)) (.cells #[.int .i64 10, .int .i64 25, .int .i64 0, .slice (some A1) 2 c1, .bool false] 33); rwa [World.size_alloc] at h
  have N2 := Lib.hid (N1.out.call (V := W2) (by rw [hW2]; exact bel2 w1 _ _))
  have a2 : W2.cell? A1 = some (.int .i64 1) := by rw [hW2]; exact cell_under _ (cell_under _ a0)
  have a3 : W2.cell? (A1.add 1) = some (.int .i64 3) := by rw [hW2]; exact cell_under _ (cell_under _ a1)
  clear hW2 a0 a1
  go_upto_region 5 with (go_at_call 32; with_reducible refine (HSH.out _).mono ?_; rintro e w2 ⟨rfl, hw2⟩; rw [hw2]; clear hw2 w2)
  obtain ⟨W3, hW3⟩ : ∃ W3, W3 = W2.alloc (.cells cw6 77) := ⟨_, rfl⟩
  rw [← hW3]
  have hB3 : Below W2.heap.size W2 W3 := by rw [hW3]; exact bel1 _ _
  have HT3 : Hid (Lt W2.heap.size W3) := Lib.hid ⟨by rw [hW3]; exact heap_top _ _⟩
  have N3 := Lib.hid (N2.out.call hB3)
  have j0 := heap_keep hB3 k0
  have j1 := heap_keep hB3 k1
  have a4 := below_cell hB3 a2
  have a5 : W3.cell? ⟨A1.block, A1.off + 1, none⟩ = some (.int .i64 3) := below_cell hB3 a3
  have b0 : W3.cell? ⟨w1.heap.size, 0, none⟩ = some (.int .i64 100) := by rw [cell_obj j0]; rfl
  have b1 : W3.cell? ⟨w1.heap.size, 1, none⟩ = some (.int .i64 35) := by rw [cell_obj j0]; rfl
  have b2 : W3.cell? ⟨w1.heap.size, 2, none⟩ = some (.int .i64 20) := by rw [cell_obj j0]; rfl
  have s0 : W3.cell? ⟨w1.heap.size + 1, 0, none⟩ = some (.int .i64 10) := by rw [cell_obj j1]; rfl
  have s1 : W3.cell? ⟨w1.heap.size + 1, 1, none⟩ = some (.int .i64 25) := by rw [cell_obj j1]; rfl
  have s2 : W3.cell? ⟨w1.heap.size + 1, 2, none⟩ = some (.int .i64 0) := by rw [cell_obj j1]; rfl
  have s3 : W3.cell? ⟨w1.heap.size + 1, 3, none⟩ = some (.slice (some A1) 2 c1) := by rw [cell_obj j1]; rfl
  have s4 : W3.cell? ⟨w1.heap.size + 1, 4, none⟩ = some (.bool false) := by rw [cell_obj j1]; rfl
  generalize hb : W2.heap.size = tb at *
  clear hW3 hB3 k0 k1 a2 a3 j0 j1 hb
  go_upto_region 7 with fail
  clear b0 b1 b2 s0 s1 s2 s3 s4 a4 a5
  go_upto_region 8 with (go_at_call 18; with_reducible refine (HS2.out _ N3.out).mono ?_; rintro e w4 ⟨A2, c2, rfl, a0, hB4⟩; have N4 := Lib.hid (N3.out.call hB4); have HT4 := Lib.hid (HT3.out.call hB4); clear hB4)
  obtain ⟨W5, hW5⟩ : ∃ W5, W5 = (w4.alloc (.cells #[.int .i64 10, .int .i64 0, .int .i64 0] 23)).alloc (.cells #[.int .i64 2, .int .i64 10, .int .i64 3, .slice (some A2) 1 c2, .bool true] 33) := ⟨_, rfl⟩
  rw [← hW5]
  have k0 : W5.heap[w4.heap.size]? = some (.cells #[.int .i64 10, .int .i64 0, .int .i64 0] 23 (0, 0)) := by rw [hW5]; exact heap_keep (bel1 _ _) (heap_top w4 _)
  have k1 : W5.heap[w4.heap.size + 1]? = some (.cells #[.int .i64 2, .int .i64 10, .int .i64 3, .slice (some A2) 1 c2, .bool true] 33 (0, 0)) := by rw [hW5]; have h := heap_top (w4.alloc (.cells #[.int .i64 10, .int .i64 0, .int .i64 0] 23)) (.cells #[.int .i64 2, .int .i64 10, .int .i64 3, .slice (some A2) 1 c2, .bool true] 33); rwa [World.size_alloc] at h
  have N5 := Lib.hid (N4.out.call (V := W5) (by rw [hW5]; exact bel2 w4 _ _))
  have HT5 := Lib.hid (HT4.out.call (V := W5) (by rw [hW5]; exact bel2 w4 _ _))
  have a2 : W5.cell? A2 = some (.int .i64 3) := by rw [hW5]; exact cell_under _ (cell_under _ a0)
  have b1 : W5.cell? ⟨w4.heap.size, 1, none⟩ = some (.int .i64 0) := by rw [cell_obj k0]; rfl
  have s0 : W5.cell? ⟨w4.heap.size + 1, 0, none⟩ = some (.int .i64 2) := by rw [cell_obj k1]; rfl
  have s2 : W5.cell? ⟨w4.heap.size + 1, 2, none⟩ = some (.int .i64 3) := by rw [cell_obj k1]; rfl
  have s3 : W5.cell? ⟨w4.heap.size + 1, 3, none⟩ = some (.slice (some A2) 1 c2) := by rw [cell_obj k1]; rfl
  have s4 : W5.cell? ⟨w4.heap.size + 1, 4, none⟩ = some (.bool true) := by rw [cell_obj k1]; rfl
  clear hW5 k0 k1 a0
  go_upto_region 10 with fail
  clear b1 s0 s2 s3 s4 a2
  go_upto_region 11 with (first
    | (go_at_call 24; with_reducible refine (HRS.out 0 9 _ (by decide) HT5.out).mono ?_; rintro e u1 ⟨rfl, hB⟩; have N6 := Lib.hid (N5.out.call hB); have HT6 := Lib.hid (HT5.out.call hB); clear hB; rw [E1.out])
    | (go_at_call 24; with_reducible refine (HRS.out 0 10 _ (by decide) HT6.out).mono ?_; rintro e u2 ⟨rfl, hB⟩; have N7 := Lib.hid (N6.out.call hB); have HT7 := Lib.hid (HT6.out.call hB); clear hB; rw [E2.out])
    | (go_at_call 24; with_reducible refine (HRS.out 0 3 _ (by decide) HT7.out).mono ?_; rintro e u3 ⟨rfl, hB⟩; have N8 := Lib.hid (N7.out.call hB); have HT8 := Lib.hid (HT7.out.call hB); clear hB; rw [E3.out])
    | (go_at_call 24; with_reducible refine (HRS.out 0 12 _ (by decide) HT8.out).mono ?_; rintro e u4 ⟨rfl, hB⟩; have N9 := Lib.hid (N8.out.call hB); have HT9 := Lib.hid (HT8.out.call hB); clear hB; rw [E4.out])
    | (go_at_call 24; with_reducible refine (HRS.out 0 14 _ (by decide) HT9.out).mono ?_; rintro e u5 ⟨rfl, hB⟩; have N10 := Lib.hid (N9.out.call hB); have HT10 := Lib.hid (HT9.out.call hB); clear hB; rw [E5.out])
    | (go_at_call 24; with_reducible refine (HRS.out 1 10 _ (by decide) HT10.out).mono ?_; rintro e u6 ⟨rfl, hB⟩; have N11 := Lib.hid (N10.out.call hB); have HT11 := Lib.hid (HT10.out.call hB); clear hB; rw [E6.out])
    | (go_at_call 24; with_reducible refine (HRN.out _).mono ?_; rintro e u7 ⟨rfl, hB⟩; have N12 := Lib.hid (N11.out.call hB); have HT12 := Lib.hid (HT11.out.call hB); clear hB))
  go_upto_region 12 with (first
    | (go_at_call 29; with_reducible refine (HSV.out 20 _ HT12.out (by decide)).mono ?_; rintro e u8 ⟨rfl, hB⟩; have N13' := Lib.hid (N12.out.call hB); have HT13 := Lib.hid (HT12.out.call hB); clear hB; rw [E7.out])
    | (go_at_call 29; with_reducible refine (HSV.out 19 _ HT13.out (by decide)).mono ?_; rintro e u9 ⟨rfl, hB⟩; have N13'' := Lib.hid (N13'.out.call hB); clear hB; rw [E8.out]))
  have N13 := Lib.hid (N13''.out.call (below_drew u9))
  refine wp_region_held_drew (S := fun W => (W.cell? ⟨w.heap.size, 0, none⟩ = some (.int .i64 100) ∧ W.cell? ⟨w.heap.size, 1, none⟩ = some (.int .i64 50) ∧ W.cell? ⟨w.heap.size, 2, none⟩ = some (.int .i64 20)) ∧ W.cell? ⟨w.heap.size + 1, 0, none⟩ = some (.int .i64 1) ∧ W.cell? ⟨w.heap.size + 1, 1, none⟩ = some (.int .i64 15) ∧ W.cell? ⟨w.heap.size + 1, 2, none⟩ = some (.int .i64 0) ∧ W.cell? ⟨w.heap.size + 1, 3, none⟩ = some (.bool true)) (by kernel_rfl) N13.out.s (fun hHeld => ?_)
  refine wpAnyH_take (i := 0) (oi := { dst := some 142, op := _, type := _, pos := _, after := _, guard := _ }) (v := ?_) rfl (by kernel_rfl) (by kernel_rfl) (by kernel_rfl) (fun _ _ _ h => h) (Or.inl ⟨by rfl, ?_⟩) (by assumption) ?_
  rotate_left
  · (intro w hSw; (try dsimp only at hSw); go_simp)
    first | done | with_reducible rfl
  try simp only [Act.put, List.setIfInBounds_toArray, List.set_cons_zero, List.set_cons_succ]
  refine wpAnyH_take (i := 1) (oi := { dst := some 143, op := _, type := _, pos := _, after := _, guard := _ }) (v := ?_) rfl (by kernel_rfl) (by kernel_rfl) (by kernel_rfl) (fun _ _ _ h => h) (Or.inl ⟨by rfl, ?_⟩) (by assumption) ?_
  rotate_left
  · (intro w hSw; (try dsimp only at hSw); go_simp)
    first | done | with_reducible rfl
  try simp only [Act.put, List.setIfInBounds_toArray, List.set_cons_zero, List.set_cons_succ]
  refine wpAnyH_take (i := 2) (oi := { dst := some 144, op := _, type := _, pos := _, after := _, guard := _ }) (v := ?_) rfl (by kernel_rfl) (by kernel_rfl) (by kernel_rfl) (fun _ _ _ h => h) (Or.inl ⟨by rfl, ?_⟩) (by assumption) ?_
  rotate_left
  · (intro w hSw; (try dsimp only at hSw); go_simp)
    first | done | with_reducible rfl
  try simp only [Act.put, List.setIfInBounds_toArray, List.set_cons_zero, List.set_cons_succ]
  refine wpAnyH_take (i := 3) (oi := { dst := some 145, op := _, type := _, pos := _, after := _, guard := _ }) (v := ?_) rfl (by kernel_rfl) (by kernel_rfl) (by kernel_rfl) (fun _ _ _ h => h) (Or.inl ⟨by rfl, ?_⟩) (by assumption) ?_
  rotate_left
  · (intro w hSw; (try dsimp only at hSw); go_simp)
    first | done | with_reducible rfl
  try simp only [Act.put, List.setIfInBounds_toArray, List.set_cons_zero, List.set_cons_succ]
  refine wpAnyH_take (i := 4) (oi := { dst := some 146, op := _, type := _, pos := _, after := _, guard := _ }) (v := ?_) rfl (by kernel_rfl) (by kernel_rfl) (by kernel_rfl) (fun _ _ _ h => h) (Or.inl ⟨by rfl, ?_⟩) (by assumption) ?_
  rotate_left
  · (intro w hSw; (try dsimp only at hSw); go_simp)
    first | done | with_reducible rfl
  try simp only [Act.put, List.setIfInBounds_toArray, List.set_cons_zero, List.set_cons_succ]
  refine wpAnyH_take (i := 5) (oi := { dst := some 147, op := _, type := _, pos := _, after := _, guard := _ }) (v := ?_) rfl (by kernel_rfl) (by kernel_rfl) (by kernel_rfl) (fun _ _ _ h => h) (Or.inl ⟨by rfl, ?_⟩) (by assumption) ?_
  rotate_left
  · (intro w hSw; (try dsimp only at hSw); go_simp)
    first | done | with_reducible rfl
  try simp only [Act.put, List.setIfInBounds_toArray, List.set_cons_zero, List.set_cons_succ]
  refine wpAnyH_ready (rs := [6]) (by kernel_rfl) (by simp) ?_
  refine AllReadyH.cons (o := { dst := some 148, op := _, type := _, pos := _, after := _, guard := _ }) rfl (fun K hK => ?_) AllReadyH.nil
  go_simp
  refine (HES.out _ N13.out).mono ?_
  rintro r x21 ⟨rfl, hB21⟩
  have N21 := Lib.hid (N13.out.call hB21)
  refine hK.out _ _ N21.out.s (fun hH2 => ?_)
  clear hK K hHeld
  rename _ => hHeld
  try simp only [Act.put, List.setIfInBounds_toArray, List.set_cons_zero, List.set_cons_succ]
  refine wpAnyH_take (i := 7) (oi := { dst := some 149, op := _, type := _, pos := _, after := _, guard := _ }) (v := ?_) rfl (by kernel_rfl) (by kernel_rfl) (by kernel_rfl) (fun _ _ _ h => h) (Or.inl ⟨by rfl, ?_⟩) (by assumption) ?_
  rotate_left
  · (intro w hSw; (try dsimp only at hSw); go_simp)
    first | done | with_reducible rfl
  try simp only [Act.put, List.setIfInBounds_toArray, List.set_cons_zero, List.set_cons_succ]
  refine wpAnyH_take (i := 8) (oi := { dst := some 150, op := _, type := _, pos := _, after := _, guard := _ }) (v := ?_) rfl (by kernel_rfl) (by kernel_rfl) (by kernel_rfl) (fun _ _ _ h => h) (Or.inl ⟨by rfl, ?_⟩) (by assumption) ?_
  rotate_left
  · (intro w hSw; (try dsimp only at hSw); go_simp)
    first | done | with_reducible rfl
  try simp only [Act.put, List.setIfInBounds_toArray, List.set_cons_zero, List.set_cons_succ]
  refine wpAnyH_take (i := 9) (oi := { dst := some 151, op := _, type := _, pos := _, after := _, guard := _ }) (v := ?_) rfl (by kernel_rfl) (by kernel_rfl) (by kernel_rfl) (fun _ _ _ h => h) (Or.inl ⟨by rfl, ?_⟩) (by assumption) ?_
  rotate_left
  · (intro w hSw; (try dsimp only at hSw); go_simp)
    first | done | with_reducible rfl
  try simp only [Act.put, List.setIfInBounds_toArray, List.set_cons_zero, List.set_cons_succ]
  refine wpAnyH_take (i := 10) (oi := { dst := some 152, op := _, type := _, pos := _, after := _, guard := _ }) (v := ?_) rfl (by kernel_rfl) (by kernel_rfl) (by kernel_rfl) (fun _ _ _ h => h) (Or.inl ⟨by rfl, ?_⟩) (by assumption) ?_
  rotate_left
  · (intro w hSw; (try dsimp only at hSw); go_simp)
    first | done | with_reducible rfl
  try simp only [Act.put, List.setIfInBounds_toArray, List.set_cons_zero, List.set_cons_succ]
  refine wpAnyH_take (i := 11) (oi := { dst := some 153, op := _, type := _, pos := _, after := _, guard := _ }) (v := ?_) rfl (by kernel_rfl) (by kernel_rfl) (by kernel_rfl) (fun _ _ _ h => h) (Or.inl ⟨by rfl, ?_⟩) (by assumption) ?_
  rotate_left
  · (intro w hSw; (try dsimp only at hSw); go_simp)
    first | done | with_reducible rfl
  try simp only [Act.put, List.setIfInBounds_toArray, List.set_cons_zero, List.set_cons_succ]
  refine wpAnyH_ready (rs := [12]) (by kernel_rfl) (by simp) ?_
  refine AllReadyH.cons (o := { dst := some 154, op := _, type := _, pos := _, after := _, guard := _ }) rfl (fun K hK => ?_) AllReadyH.nil
  go_simp
  refine (HC1.out _ N21.out).mono ?_
  rintro r x22 ⟨rfl, hB22⟩
  have N22 := Lib.hid (N21.out.call hB22)
  refine hK.out _ _ N22.out.s (fun hH2 => ?_)
  clear hK K hHeld
  rename _ => hHeld
  try simp only [Act.put, List.setIfInBounds_toArray, List.set_cons_zero, List.set_cons_succ]
  refine wpAnyH_take (i := 13) (oi := { dst := some 155, op := _, type := _, pos := _, after := _, guard := _ }) (v := ?_) rfl (by kernel_rfl) (by kernel_rfl) (by kernel_rfl) (fun _ _ _ h => h) (Or.inl ⟨by rfl, ?_⟩) (by assumption) ?_
  rotate_left
  · (intro w hSw; (try dsimp only at hSw); go_simp)
    first | done | with_reducible rfl
  try simp only [Act.put, List.setIfInBounds_toArray, List.set_cons_zero, List.set_cons_succ]
  refine wpAnyH_take (i := 14) (oi := { dst := some 156, op := _, type := _, pos := _, after := _, guard := _ }) (v := ?_) rfl (by kernel_rfl) (by kernel_rfl) (by kernel_rfl) (fun _ _ _ h => h) (Or.inl ⟨by rfl, ?_⟩) (by assumption) ?_
  rotate_left
  · (intro w hSw; (try dsimp only at hSw); go_simp)
    first | done | with_reducible rfl
  try simp only [Act.put, List.setIfInBounds_toArray, List.set_cons_zero, List.set_cons_succ]
  refine wpAnyH_take (i := 15) (oi := { dst := some 157, op := _, type := _, pos := _, after := _, guard := _ }) (v := ?_) rfl (by kernel_rfl) (by kernel_rfl) (by kernel_rfl) (fun _ _ _ h => h) (Or.inl ⟨by rfl, ?_⟩) (by assumption) ?_
  rotate_left
  · (intro w hSw; (try dsimp only at hSw); go_simp)
    first | done | with_reducible rfl
  try simp only [Act.put, List.setIfInBounds_toArray, List.set_cons_zero, List.set_cons_succ]
  refine wpAnyH_take (i := 16) (oi := { dst := some 158, op := _, type := _, pos := _, after := _, guard := _ }) (v := ?_) rfl (by kernel_rfl) (by kernel_rfl) (by kernel_rfl) (fun _ _ _ h => h) (Or.inl ⟨by rfl, ?_⟩) (by assumption) ?_
  rotate_left
  · (intro w hSw; (try dsimp only at hSw); go_simp)
    first | done | with_reducible rfl
  try simp only [Act.put, List.setIfInBounds_toArray, List.set_cons_zero, List.set_cons_succ]
  refine wpAnyH_take (i := 17) (oi := { dst := some 159, op := _, type := _, pos := _, after := _, guard := _ }) (v := ?_) rfl (by kernel_rfl) (by kernel_rfl) (by kernel_rfl) (fun _ _ _ h => h) (Or.inl ⟨by rfl, ?_⟩) (by assumption) ?_
  rotate_left
  · (intro w hSw; (try dsimp only at hSw); go_simp)
    first | done | with_reducible rfl
  try simp only [Act.put, List.setIfInBounds_toArray, List.set_cons_zero, List.set_cons_succ]
  refine wpAnyH_ready (rs := [18]) (by kernel_rfl) (by simp) ?_
  refine AllReadyH.cons (o := { dst := some 160, op := _, type := _, pos := _, after := _, guard := _ }) rfl (fun K hK => ?_) AllReadyH.nil
  go_simp
  refine (HC2.out _ N22.out).mono ?_
  rintro r x23 ⟨rfl, hB23⟩
  have N23 := Lib.hid (N22.out.call hB23)
  refine hK.out _ _ N23.out.s (fun hH2 => ?_)
  clear hK K hHeld
  rename _ => hHeld
  try simp only [Act.put, List.setIfInBounds_toArray, List.set_cons_zero, List.set_cons_succ]
  refine wpAnyH_take (i := 19) (oi := { dst := some 161, op := _, type := _, pos := _, after := _, guard := _ }) (v := ?_) rfl (by kernel_rfl) (by kernel_rfl) (by kernel_rfl) (fun _ _ _ h => h) (Or.inl ⟨by rfl, ?_⟩) (by assumption) ?_
  rotate_left
  · (intro w hSw; (try dsimp only at hSw); go_simp)
    first | done | with_reducible rfl
  try simp only [Act.put, List.setIfInBounds_toArray, List.set_cons_zero, List.set_cons_succ]
  refine wpAnyH_take (i := 20) (oi := { dst := some 162, op := _, type := _, pos := _, after := _, guard := _ }) (v := ?_) rfl (by kernel_rfl) (by kernel_rfl) (by kernel_rfl) (fun _ _ _ h => h) (Or.inl ⟨by rfl, ?_⟩) (by assumption) ?_
  rotate_left
  · (intro w hSw; (try dsimp only at hSw); go_simp)
    first | done | with_reducible rfl
  try simp only [Act.put, List.setIfInBounds_toArray, List.set_cons_zero, List.set_cons_succ]
  refine wpAnyH_take (i := 21) (oi := { dst := some 163, op := _, type := _, pos := _, after := _, guard := _ }) (v := ?_) rfl (by kernel_rfl) (by kernel_rfl) (by kernel_rfl) (fun _ _ _ h => h) (Or.inl ⟨by rfl, ?_⟩) (by assumption) ?_
  rotate_left
  · (intro w hSw; (try dsimp only at hSw); go_simp)
    first | done | with_reducible rfl
  try simp only [Act.put, List.setIfInBounds_toArray, List.set_cons_zero, List.set_cons_succ]
  refine wpAnyH_take (i := 22) (oi := { dst := some 164, op := _, type := _, pos := _, after := _, guard := _ }) (v := ?_) rfl (by kernel_rfl) (by kernel_rfl) (by kernel_rfl) (fun _ _ _ h => h) (Or.inl ⟨by rfl, ?_⟩) (by assumption) ?_
  rotate_left
  · (intro w hSw; (try dsimp only at hSw); go_simp)
    first | done | with_reducible rfl
  try simp only [Act.put, List.setIfInBounds_toArray, List.set_cons_zero, List.set_cons_succ]
  refine wpAnyH_take (i := 23) (oi := { dst := some 165, op := _, type := _, pos := _, after := _, guard := _ }) (v := ?_) rfl (by kernel_rfl) (by kernel_rfl) (by kernel_rfl) (fun _ _ _ h => h) (Or.inl ⟨by rfl, ?_⟩) (by assumption) ?_
  rotate_left
  · (intro w hSw; (try dsimp only at hSw); go_simp)
    first | done | with_reducible rfl
  try simp only [Act.put, List.setIfInBounds_toArray, List.set_cons_zero, List.set_cons_succ]
  refine wpAnyH_take (i := 24) (oi := { dst := some 166, op := _, type := _, pos := _, after := _, guard := _ }) (v := ?_) rfl (by kernel_rfl) (by kernel_rfl) (by kernel_rfl) (fun _ _ _ h => h) (Or.inl ⟨by rfl, ?_⟩) (by assumption) ?_
  rotate_left
  · (intro w hSw; (try dsimp only at hSw); go_simp)
    first | done | with_reducible rfl
  try simp only [Act.put, List.setIfInBounds_toArray, List.set_cons_zero, List.set_cons_succ]
  refine wpAnyH_take (i := 25) (oi := { dst := some 167, op := _, type := _, pos := _, after := _, guard := _ }) (v := ?_) rfl (by kernel_rfl) (by kernel_rfl) (by kernel_rfl) (fun _ _ _ h => h) (Or.inl ⟨by rfl, ?_⟩) (by assumption) ?_
  rotate_left
  · (intro w hSw; (try dsimp only at hSw); go_simp)
    first | done | with_reducible rfl
  try simp only [Act.put, List.setIfInBounds_toArray, List.set_cons_zero, List.set_cons_succ]
  refine wpAnyH_take (i := 26) (oi := { dst := some 168, op := _, type := _, pos := _, after := _, guard := _ }) (v := ?_) rfl (by kernel_rfl) (by kernel_rfl) (by kernel_rfl) (fun _ _ _ h => h) (Or.inl ⟨by rfl, ?_⟩) (by assumption) ?_
  rotate_left
  · (intro w hSw; (try dsimp only at hSw); go_simp)
    first | done | with_reducible rfl
  try simp only [Act.put, List.setIfInBounds_toArray, List.set_cons_zero, List.set_cons_succ]
  refine wpAnyH_ready (rs := [27]) (by kernel_rfl) (by simp) ?_
  refine AllReadyH.cons (o := { dst := some 169, op := _, type := _, pos := _, after := _, guard := _ }) rfl (fun K hK => ?_) AllReadyH.nil
  go_simp
  obtain ⟨x27, hx27⟩ : ∃ V : World, V = x23.alloc (.cells #[.int .i64 1, .int .i64 15, .int .i64 0, .bool true] 41) := ⟨_, rfl⟩
  have M27 := Lib.hid (N23.out.call (V := x27) (by rw [hx27]; exact bel1 _ _))
  have C27 : Hid (∀ j u, (cells4 ⟨1, 15, 0, true⟩)[j]? = some u → x27.cell? ⟨x23.heap.size, j, none⟩ = some u) := Lib.hid (by rw [hx27]; exact cells4_new x23 ⟨1, 15, 0, true⟩)
  change K _ (x23.alloc (.cells #[.int .i64 1, .int .i64 15, .int .i64 0, .bool true] 41))
  rw [← hx27]
  clear hx27
  refine hK.out _ _ M27.out.s (fun hH2 => ?_)
  clear hK K hHeld
  rename _ => hHeld
  try simp only [Act.put, List.setIfInBounds_toArray, List.set_cons_zero, List.set_cons_succ]
  refine wpAnyH_ready (rs := [28]) (by kernel_rfl) (by simp) ?_
  refine AllReadyH.cons (o := { dst := some 170, op := _, type := _, pos := _, after := _, guard := _ }) rfl (fun K hK => ?_) AllReadyH.nil
  refine wp_append_full (.tmp 165) (.tmp 169) 24 rfl 41 i0 (.agg #[.int .i64 0, .int .i64 0, .int .i64 0, .bool false]) 4 32 Try.underlying24 hi hz0 hz1 hz2 rfl (by decide) ⟨w.heap.size + 1, 0, none⟩ 3 3 (flat4 l3) rfl rfl (fun j u hu => by rw [ad_add]; exact M27.out.rowc j u hu) ⟨x23.heap.size, 0, none⟩ 1 1 (cells4 ⟨1, 15, 0, true⟩) rfl rfl (fun j u hu => by rw [ad_add]; exact C27.out j u hu) (cells4_one _) (by decide) (by unfold maxLen; omega) (by omega) ?_
  intro v28 x28 ho28 hg28
  obtain ⟨A28, c28, rfl⟩ := own_shape4 ho28
  have hB28 : Below x27.heap.size x27 x28 := (Below.refl _ _).grown hg28 (Nat.le_refl _) (fun k e => by cases e)
  have M28 := Lib.hid (M27.out.call hB28)
  have R28 : Hid (RdsLd x28 x28.heap.size A28 [⟨1, 15, 0, true⟩, ⟨2, 20, 5, false⟩, ⟨3, 10, 7, false⟩, ⟨1, 15, 0, true⟩]) := Lib.hid (own_rds4 (L := [⟨1, 15, 0, true⟩, ⟨2, 20, 5, false⟩, ⟨3, 10, 7, false⟩, ⟨1, 15, 0, true⟩]) ho28)
  have Q28 : Hid (4 ≤ c28 ∧ c28 ≤ maxLen) := Lib.hid (own_cap ho28 (by omega))
  clear ho28 hg28 hB28
  refine hK.out _ _ M28.out.s (fun hH2 => ?_)
  clear hK K hHeld
  rename _ => hHeld
  try simp only [Act.put, List.setIfInBounds_toArray, List.set_cons_zero, List.set_cons_succ]
  refine wpAnyH_ready (rs := [29]) (by kernel_rfl) (by simp) ?_
  refine AllReadyH.cons (o := { dst := some 171, op := _, type := _, pos := _, after := _, guard := _ }) rfl (fun K hK => ?_) AllReadyH.nil
  go_simp
  refine (HC3.out _ _ _ R28.out Q28.out).mono ?_
  rintro r x29 ⟨rfl, hB29⟩
  have M29 := Lib.hid (M28.out.call hB29)
  refine hK.out _ _ M29.out.s (fun hH2 => ?_)
  clear hK K hHeld
  rename _ => hHeld
  try simp only [Act.put, List.setIfInBounds_toArray, List.set_cons_zero, List.set_cons_succ]
  refine wpAnyH_take (i := 30) (oi := { dst := some 172, op := _, type := _, pos := _, after := _, guard := _ }) (v := ?_) rfl (by kernel_rfl) (by kernel_rfl) (by kernel_rfl) (fun _ _ _ h => h) (Or.inl ⟨by rfl, ?_⟩) (by assumption) ?_
  rotate_left
  · (intro w hSw; (try dsimp only at hSw); go_simp)
    first | done | with_reducible rfl
  try simp only [Act.put, List.setIfInBounds_toArray, List.set_cons_zero, List.set_cons_succ]
  refine wpAnyH_take (i := 31) (oi := { dst := some 173, op := _, type := _, pos := _, after := _, guard := _ }) (v := ?_) rfl (by kernel_rfl) (by kernel_rfl) (by kernel_rfl) (fun _ _ _ h => h) (Or.inl ⟨by rfl, ?_⟩) (by assumption) ?_
  rotate_left
  · (intro w hSw; (try dsimp only at hSw); go_simp)
    first | done | with_reducible rfl
  try simp only [Act.put, List.setIfInBounds_toArray, List.set_cons_zero, List.set_cons_succ]
  refine wpAnyH_take (i := 32) (oi := { dst := some 174, op := _, type := _, pos := _, after := _, guard := _ }) (v := ?_) rfl (by kernel_rfl) (by kernel_rfl) (by kernel_rfl) (fun _ _ _ h => h) (Or.inl ⟨by rfl, ?_⟩) (by assumption) ?_
  rotate_left
  · (intro w hSw; (try dsimp only at hSw); go_simp)
    first | done | with_reducible rfl
  try simp only [Act.put, List.setIfInBounds_toArray, List.set_cons_zero, List.set_cons_succ]
  refine wpAnyH_take (i := 33) (oi := { dst := some 175, op := _, type := _, pos := _, after := _, guard := _ }) (v := ?_) rfl (by kernel_rfl) (by kernel_rfl) (by kernel_rfl) (fun _ _ _ h => h) (Or.inl ⟨by rfl, ?_⟩) (by assumption) ?_
  rotate_left
  · (intro w hSw; (try dsimp only at hSw); go_simp)
    first | done | with_reducible rfl
  try simp only [Act.put, List.setIfInBounds_toArray, List.set_cons_zero, List.set_cons_succ]
  refine wpAnyH_ready (rs := [34]) (by kernel_rfl) (by simp) ?_
  refine AllReadyH.cons (o := { dst := some 176, op := _, type := _, pos := _, after := _, guard := _ }) rfl (fun K hK => ?_) AllReadyH.nil
  obtain ⟨x34, hmk, ho34, hg34⟩ := run_makeSlice_full (P := Try.prog) x29 x29.heap.size 24 41 i0 (.agg #[.int .i64 0, .int .i64 0, .int .i64 0, .bool false]) 4 Try.underlying24 hi hz0 hz1 .i64 .i64 65 (by omega) (by rw [hz2]; omega) (by unfold maxLen; omega) (Nat.le_refl _)
  refine wp_make 24 (.const (.int .i64 65)) (.const (.int .i64 65)) rfl _ x34 hmk ?_
  have hB34 : Below x29.heap.size x29 x34 := (Below.refl _ _).grown hg34 (Nat.le_refl _) (fun k e => by cases e)
  have M34 := Lib.hid (M29.out.call hB34)
  have R34 : Hid (RdsLd x34 x34.heap.size (some ⟨x29.heap.size, 0, none⟩) (List.replicate 65 ⟨0, 0, 0, false⟩)) := Lib.hid (own_rds4 (L := List.replicate 65 ⟨0, 0, 0, false⟩) (by rw [made65] at ho34; exact ho34))
  clear hmk ho34 hg34 hB34
  refine hK.out _ _ M34.out.s (fun hH2 => ?_)
  clear hK K hHeld
  rename _ => hHeld
  try simp only [Act.put, List.setIfInBounds_toArray, List.set_cons_zero, List.set_cons_succ]
  refine wpAnyH_ready (rs := [35]) (by kernel_rfl) (by simp) ?_
  refine AllReadyH.cons (o := { dst := some 177, op := _, type := _, pos := _, after := _, guard := _ }) rfl (fun K hK => ?_) AllReadyH.nil
  go_simp
  refine (HC4.out _ _ R34.out).mono ?_
  rintro r x35 ⟨rfl, hB35⟩
  have M35 := Lib.hid (M34.out.call hB35)
  refine hK.out _ _ M35.out.s (fun hH2 => ?_)
  clear hK K hHeld
  rename _ => hHeld
  try simp only [Act.put, List.setIfInBounds_toArray, List.set_cons_zero, List.set_cons_succ]
  refine wpAnyH_take (i := 36) (oi := { dst := some 178, op := _, type := _, pos := _, after := _, guard := _ }) (v := ?_) rfl (by kernel_rfl) (by kernel_rfl) (by kernel_rfl) (fun _ _ _ h => h) (Or.inl ⟨by rfl, ?_⟩) (by assumption) ?_
  rotate_left
  · (intro w hSw; (try dsimp only at hSw); go_simp)
    first | done | with_reducible rfl
  try simp only [Act.put, List.setIfInBounds_toArray, List.set_cons_zero, List.set_cons_succ]
  refine wpAnyH_take (i := 37) (oi := { dst := some 179, op := _, type := _, pos := _, after := _, guard := _ }) (v := ?_) rfl (by kernel_rfl) (by kernel_rfl) (by kernel_rfl) (fun _ _ _ h => h) (Or.inl ⟨by rfl, ?_⟩) (by assumption) ?_
  rotate_left
  · (intro w hSw; (try dsimp only at hSw); go_simp)
    first | done | with_reducible rfl
  try simp only [Act.put, List.setIfInBounds_toArray, List.set_cons_zero, List.set_cons_succ]
  refine wpAnyH_take (i := 38) (oi := { dst := some 0, op := _, type := _, pos := _, after := _, guard := _ }) (v := ?_) rfl (by kernel_rfl) (by kernel_rfl) (by kernel_rfl) (fun _ _ _ h => h) (Or.inl ⟨by rfl, ?_⟩) (by assumption) ?_
  rotate_left
  · (intro w hSw; (try dsimp only at hSw); go_simp)
    first | done | with_reducible rfl
  try simp only [Act.put, List.setIfInBounds_toArray, List.set_cons_zero, List.set_cons_succ]
  refine wpAnyH_done (by kernel_rfl) ?_ _
  go_wp2_with fail
  go_ret
  exact ⟨rfl, M35.out.bel⟩
end Pw
end Go.Proofs.Ytobbnbelacncjaa
