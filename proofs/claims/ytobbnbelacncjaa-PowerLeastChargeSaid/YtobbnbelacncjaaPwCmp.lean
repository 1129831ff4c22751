/-
  The landed order of service: by, reversed, then, service, and what their functions return.
-/
import Derived.Test.YtobbnbelacncjaaPwSrt
import Derived.Test.YtobbnbelacncjaaPwOr
import Derived.Sort.Grow
import Derived.Shelf.Abstract
import Derived.Laws.EntriesVeiled
namespace Go.Proofs.Ytobbnbelacncjaa
open Go.RowKit
namespace Pw
open H
set_option linter.unusedVariables false
set_option linter.unusedSimpArgs false
set_option maxRecDepth 100000
abbrev bp (b : Nat) : Value := .pointer (some ⟨b, 0, none⟩)
/-- w' is w with draws and blocks behind. -/
structure Bg (w w' : World) : Prop where
  bel : Below w.heap.size w w'
  dr : w.drawn ≤ w'.drawn
theorem Bg.refl (w : World) : Bg w w := ⟨Below.refl _ _, Nat.le_refl _⟩
theorem Bg.trans {a b c : World} (h : Bg a b) (k : Bg b c) : Bg a c := ⟨bt h.bel k.bel, Nat.le_trans h.dr k.dr⟩
theorem Bg.alloc {a w : World} (h : Bg a w) (o : Obj) : Bg a (w.alloc o) := ⟨bt h.bel (bel1 w o), h.dr⟩
theorem Bg.drew {a w : World} (h : Bg a w) : Bg a w.drew := ⟨bt h.bel (below_drew w), Nat.le_succ_of_le h.dr⟩
theorem Bg.grow {w w' : World} (h : Bg w w') : ∃ (q : Nat) (os : Array Obj), w' = Go.Sort.grow (w.drewN q) os := by
  refine ⟨w'.drawn - w.drawn, w'.heap.extract w.heap.size w'.heap.size, ?_⟩
  obtain ⟨⟨h1, h2, h3, h4, h5⟩, h6⟩ := h
  have hh : w'.heap = w.heap ++ w'.heap.extract w.heap.size w'.heap.size := by
    apply Array.ext_getElem?
    intro k
    rw [Array.getElem?_append]
    split
    · rename_i hk
      exact h5 k hk
    · rename_i hk
      rw [Array.getElem?_extract]
      by_cases hk2 : k < w'.heap.size
      · rw [if_pos (by omega)]
        congr 1
        omega
      · rw [if_neg (by omega), Array.getElem?_eq_none (by omega)]
  cases w
  cases w'
  simp only [Go.Sort.grow, World.drewN] at *
  subst h1
  subst h2
  subst h3
  rw [← hh]
  congr 1
  omega
theorem cell_new2 (w : World) (o : Obj) (cs : Array Value) (t : TypeId) (i : Nat) : ((w.alloc o).alloc (.cells cs t)).cell? ⟨w.heap.size + 1, i, none⟩ = cs[i]? := by
  have h := cell_top (w.alloc o) cs t i
  rwa [World.size_alloc] at h
theorem cell_new3 (w : World) (o p : Obj) (cs : Array Value) (t : TypeId) (i : Nat) : (((w.alloc o).alloc p).alloc (.cells cs t)).cell? ⟨w.heap.size + 1 + 1, i, none⟩ = cs[i]? := by
  have h := cell_top ((w.alloc o).alloc p) cs t i
  rwa [World.size_alloc, World.size_alloc] at h
def cls (x : Ld) : Int := if x.ess = true then 0 else 1
def prio (x : Ld) : Int := if x.ess = true then 0 else x.pri
set_option maxHeartbeats 1000000 in
theorem pclass_any (x : Ld) (w : World) : Calls Try.prog 55 #[x.v] w fun e w' => e = .returned (.int .i64 (cls x)) ∧ Bg w w' := by
  obtain ⟨xi, xp, xr, xe⟩ := x
  unfold cls
  dsimp only [Ld.v]
  cases xe
  all_goals
    go_enter Try.func55, Try.ntmps55
    go_wp2_with fail
    go_ret
    exact ⟨rfl, (Bg.refl w).alloc _⟩
set_option maxHeartbeats 1000000 in
theorem pprio_any (x : Ld) (w : World) : Calls Try.prog 57 #[x.v] w fun e w' => e = .returned (.int .i64 (prio x)) ∧ Bg w w' := by
  obtain ⟨xi, xp, xr, xe⟩ := x
  unfold prio
  dsimp only [Ld.v]
  cases xe
  all_goals
    go_enter Try.func57, Try.ntmps57
    go_wp2_with fail
    go_ret
    exact ⟨rfl, (Bg.refl w).alloc _⟩
set_option maxHeartbeats 1000000 in
theorem pid_any (x : Ld) (w : World) : Calls Try.prog 59 #[x.v] w fun e w' => e = .returned (.int .i64 x.id) ∧ Bg w w' := by
  obtain ⟨xi, xp, xr, xe⟩ := x
  dsimp only [Ld.v]
  go_enter Try.func59, Try.ntmps59
  go_wp2_with fail
  go_ret
  exact ⟨rfl, (Bg.refl w).alloc _⟩
/-- A function of loads that returns a number. -/
structure NumAt (num : Nat) (f : Ld → Int) : Prop where
  en : ∀ args w, (callFunc num args).run Try.prog w = .ok (.enter num args) w
  call : ∀ x w, Calls Try.prog num #[x.v] w fun e w' => e = .returned (.int .i64 (f x)) ∧ Bg w w'
theorem num_class : NumAt 55 cls := ⟨enters_of Try.func55 (by kernel_rfl) rfl, pclass_any⟩
theorem num_prio : NumAt 57 prio := ⟨enters_of Try.func57 (by kernel_rfl) rfl, pprio_any⟩
theorem num_id : NumAt 59 (fun x => x.id) := ⟨enters_of Try.func59 (by kernel_rfl) rfl, pid_any⟩
theorem cell_new_all (w : World) (x : Ld) (o : Obj) : ((w.alloc (.cells #[.int .i64 x.id, .int .i64 x.pow, .int .i64 x.pri, .bool x.ess] 41)).alloc o).cell? ⟨w.heap.size, 0, none⟩ = some (.int .i64 x.id) ∧ ((w.alloc (.cells #[.int .i64 x.id, .int .i64 x.pow, .int .i64 x.pri, .bool x.ess] 41)).alloc o).cell? ⟨w.heap.size, 1, none⟩ = some (.int .i64 x.pow) ∧ ((w.alloc (.cells #[.int .i64 x.id, .int .i64 x.pow, .int .i64 x.pri, .bool x.ess] 41)).alloc o).cell? ⟨w.heap.size, 2, none⟩ = some (.int .i64 x.pri) ∧ ((w.alloc (.cells #[.int .i64 x.id, .int .i64 x.pow, .int .i64 x.pri, .bool x.ess] 41)).alloc o).cell? ⟨w.heap.size, 3, none⟩ = some (.bool x.ess) :=
  ⟨cell_under o (cell_top w _ _ _), cell_under o (cell_top w _ _ _), cell_under o (cell_top w _ _ _), cell_under o (cell_top w _ _ _)⟩
theorem all_below {W V : World} {b : Nat} {x : Ld} (hB : Below W.heap.size W V) (h : W.cell? ⟨b, 0, none⟩ = some (.int .i64 x.id) ∧ W.cell? ⟨b, 1, none⟩ = some (.int .i64 x.pow) ∧ W.cell? ⟨b, 2, none⟩ = some (.int .i64 x.pri) ∧ W.cell? ⟨b, 3, none⟩ = some (.bool x.ess)) : V.cell? ⟨b, 0, none⟩ = some (.int .i64 x.id) ∧ V.cell? ⟨b, 1, none⟩ = some (.int .i64 x.pow) ∧ V.cell? ⟨b, 2, none⟩ = some (.int .i64 x.pri) ∧ V.cell? ⟨b, 3, none⟩ = some (.bool x.ess) :=
  ⟨below_cell hB h.1, below_cell hB h.2.1, below_cell hB h.2.2.1, below_cell hB h.2.2.2⟩
set_option maxHeartbeats 4000000 in
theorem pby1_any (num : Nat) (f : Ld → Int) (hN : NumAt num f) (Bn : Nat) (x y : Ld) (w : World) (hb : w.cell? ⟨Bn, 0, none⟩ = some (.func (.func num) #[] #[])) :
    Calls Try.prog 71 #[x.v, y.v, bp Bn] w fun e w' => e = .returned (.int .i64 (cmpI (f x) (f y))) ∧ Bg w w' := by
  have eg := hN.en
  have HC := Lib.hid (fun W => pcmpI_any (f x) (f y) W)
  have HX0 := Lib.hid (hN.call x)
  have HY0 := Lib.hid (hN.call y)
  have N1 := cell_new_all w x (.cells #[.int .i64 y.id, .int .i64 y.pow, .int .i64 y.pri, .bool y.ess] 41)
  have N2 : (((w.alloc (.cells #[.int .i64 x.id, .int .i64 x.pow, .int .i64 x.pri, .bool x.ess] 41)).alloc (.cells #[.int .i64 y.id, .int .i64 y.pow, .int .i64 y.pri, .bool y.ess] 41)).cell? ⟨w.heap.size + 1, 0, none⟩ = some (.int .i64 y.id) ∧ ((w.alloc (.cells #[.int .i64 x.id, .int .i64 x.pow, .int .i64 x.pri, .bool x.ess] 41)).alloc (.cells #[.int .i64 y.id, .int .i64 y.pow, .int .i64 y.pri, .bool y.ess] 41)).cell? ⟨w.heap.size + 1, 1, none⟩ = some (.int .i64 y.pow) ∧ ((w.alloc (.cells #[.int .i64 x.id, .int .i64 x.pow, .int .i64 x.pri, .bool x.ess] 41)).alloc (.cells #[.int .i64 y.id, .int .i64 y.pow, .int .i64 y.pri, .bool y.ess] 41)).cell? ⟨w.heap.size + 1, 2, none⟩ = some (.int .i64 y.pri) ∧ ((w.alloc (.cells #[.int .i64 x.id, .int .i64 x.pow, .int .i64 x.pri, .bool x.ess] 41)).alloc (.cells #[.int .i64 y.id, .int .i64 y.pow, .int .i64 y.pri, .bool y.ess] 41)).cell? ⟨w.heap.size + 1, 3, none⟩ = some (.bool y.ess)) := ⟨cell_new2 w _ _ _ _, cell_new2 w _ _ _ _, cell_new2 w _ _ _ _, cell_new2 w _ _ _ _⟩
  have hb2 := cell_under (.cells #[.int .i64 y.id, .int .i64 y.pow, .int .i64 y.pri, .bool y.ess] 41) (cell_under (.cells #[.int .i64 x.id, .int .i64 x.pow, .int .i64 x.pri, .bool x.ess] 41) hb)
  clear hN hb
  generalize f x = fx at *
  generalize f y = fy at *
  generalize cmpI fx fy = r at *
  go_enter Try.func71, Try.ntmps71
  go_wp2_with fail
  have HB0 : Hid (Bg w ((w.alloc (.cells #[.int .i64 x.id, .int .i64 x.pow, .int .i64 x.pri, .bool x.ess] 41)).alloc (.cells #[.int .i64 y.id, .int .i64 y.pow, .int .i64 y.pri, .bool y.ess] 41))) := Lib.hid (((Bg.refl w).alloc _).alloc _)
  generalize (w.alloc (.cells #[.int .i64 x.id, .int .i64 x.pow, .int .i64 x.pri, .bool x.ess] 41)).alloc (.cells #[.int .i64 y.id, .int .i64 y.pow, .int .i64 y.pri, .bool y.ess] 41) = W0 at *
  have HS0 : (W0.drew.cell? ⟨Bn, 0, none⟩ = some (.func (.func num) #[] #[]) ∧ (W0.drew.cell? ⟨w.heap.size, 0, none⟩ = some (.int .i64 x.id) ∧ W0.drew.cell? ⟨w.heap.size, 1, none⟩ = some (.int .i64 x.pow) ∧ W0.drew.cell? ⟨w.heap.size, 2, none⟩ = some (.int .i64 x.pri) ∧ W0.drew.cell? ⟨w.heap.size, 3, none⟩ = some (.bool x.ess)) ∧ (W0.drew.cell? ⟨w.heap.size + 1, 0, none⟩ = some (.int .i64 y.id) ∧ W0.drew.cell? ⟨w.heap.size + 1, 1, none⟩ = some (.int .i64 y.pow) ∧ W0.drew.cell? ⟨w.heap.size + 1, 2, none⟩ = some (.int .i64 y.pri) ∧ W0.drew.cell? ⟨w.heap.size + 1, 3, none⟩ = some (.bool y.ess))) ∧ Bg W0 W0.drew := ⟨⟨hb2, N1, N2⟩, (Bg.refl W0).drew⟩
  have HX : Hid (∀ V, (V.cell? ⟨Bn, 0, none⟩ = some (.func (.func num) #[] #[]) ∧ (V.cell? ⟨w.heap.size, 0, none⟩ = some (.int .i64 x.id) ∧ V.cell? ⟨w.heap.size, 1, none⟩ = some (.int .i64 x.pow) ∧ V.cell? ⟨w.heap.size, 2, none⟩ = some (.int .i64 x.pri) ∧ V.cell? ⟨w.heap.size, 3, none⟩ = some (.bool x.ess)) ∧ (V.cell? ⟨w.heap.size + 1, 0, none⟩ = some (.int .i64 y.id) ∧ V.cell? ⟨w.heap.size + 1, 1, none⟩ = some (.int .i64 y.pow) ∧ V.cell? ⟨w.heap.size + 1, 2, none⟩ = some (.int .i64 y.pri) ∧ V.cell? ⟨w.heap.size + 1, 3, none⟩ = some (.bool y.ess))) ∧ Bg W0 V → Calls Try.prog num #[x.v] V fun e V' => e = .returned (.int .i64 fx) ∧ ((V'.cell? ⟨Bn, 0, none⟩ = some (.func (.func num) #[] #[]) ∧ (V'.cell? ⟨w.heap.size, 0, none⟩ = some (.int .i64 x.id) ∧ V'.cell? ⟨w.heap.size, 1, none⟩ = some (.int .i64 x.pow) ∧ V'.cell? ⟨w.heap.size, 2, none⟩ = some (.int .i64 x.pri) ∧ V'.cell? ⟨w.heap.size, 3, none⟩ = some (.bool x.ess)) ∧ (V'.cell? ⟨w.heap.size + 1, 0, none⟩ = some (.int .i64 y.id) ∧ V'.cell? ⟨w.heap.size + 1, 1, none⟩ = some (.int .i64 y.pow) ∧ V'.cell? ⟨w.heap.size + 1, 2, none⟩ = some (.int .i64 y.pri) ∧ V'.cell? ⟨w.heap.size + 1, 3, none⟩ = some (.bool y.ess))) ∧ Bg W0 V')) := Lib.hid (fun V h => (HX0.out V).mono fun e V' ⟨h1, h2⟩ => ⟨h1, ⟨below_cell h2.bel h.1.1, all_below h2.bel h.1.2.1, all_below h2.bel h.1.2.2⟩, h.2.trans h2⟩)
  have HY : Hid (∀ V, (V.cell? ⟨Bn, 0, none⟩ = some (.func (.func num) #[] #[]) ∧ (V.cell? ⟨w.heap.size, 0, none⟩ = some (.int .i64 x.id) ∧ V.cell? ⟨w.heap.size, 1, none⟩ = some (.int .i64 x.pow) ∧ V.cell? ⟨w.heap.size, 2, none⟩ = some (.int .i64 x.pri) ∧ V.cell? ⟨w.heap.size, 3, none⟩ = some (.bool x.ess)) ∧ (V.cell? ⟨w.heap.size + 1, 0, none⟩ = some (.int .i64 y.id) ∧ V.cell? ⟨w.heap.size + 1, 1, none⟩ = some (.int .i64 y.pow) ∧ V.cell? ⟨w.heap.size + 1, 2, none⟩ = some (.int .i64 y.pri) ∧ V.cell? ⟨w.heap.size + 1, 3, none⟩ = some (.bool y.ess))) ∧ Bg W0 V → Calls Try.prog num #[y.v] V fun e V' => e = .returned (.int .i64 fy) ∧ ((V'.cell? ⟨Bn, 0, none⟩ = some (.func (.func num) #[] #[]) ∧ (V'.cell? ⟨w.heap.size, 0, none⟩ = some (.int .i64 x.id) ∧ V'.cell? ⟨w.heap.size, 1, none⟩ = some (.int .i64 x.pow) ∧ V'.cell? ⟨w.heap.size, 2, none⟩ = some (.int .i64 x.pri) ∧ V'.cell? ⟨w.heap.size, 3, none⟩ = some (.bool x.ess)) ∧ (V'.cell? ⟨w.heap.size + 1, 0, none⟩ = some (.int .i64 y.id) ∧ V'.cell? ⟨w.heap.size + 1, 1, none⟩ = some (.int .i64 y.pow) ∧ V'.cell? ⟨w.heap.size + 1, 2, none⟩ = some (.int .i64 y.pri) ∧ V'.cell? ⟨w.heap.size + 1, 3, none⟩ = some (.bool y.ess))) ∧ Bg W0 V')) := Lib.hid (fun V h => (HY0.out V).mono fun e V' ⟨h1, h2⟩ => ⟨h1, ⟨below_cell h2.bel h.1.1, all_below h2.bel h.1.2.1, all_below h2.bel h.1.2.2⟩, h.2.trans h2⟩)
  clear hb2 N1 N2
  go_region_held3 (fun V => (V.cell? ⟨Bn, 0, none⟩ = some (.func (.func num) #[] #[]) ∧ (V.cell? ⟨w.heap.size, 0, none⟩ = some (.int .i64 x.id) ∧ V.cell? ⟨w.heap.size, 1, none⟩ = some (.int .i64 x.pow) ∧ V.cell? ⟨w.heap.size, 2, none⟩ = some (.int .i64 x.pri) ∧ V.cell? ⟨w.heap.size, 3, none⟩ = some (.bool x.ess)) ∧ (V.cell? ⟨w.heap.size + 1, 0, none⟩ = some (.int .i64 y.id) ∧ V.cell? ⟨w.heap.size + 1, 1, none⟩ = some (.int .i64 y.pow) ∧ V.cell? ⟨w.heap.size + 1, 2, none⟩ = some (.int .i64 y.pri) ∧ V.cell? ⟨w.heap.size + 1, 3, none⟩ = some (.bool y.ess))) ∧ Bg W0 V) (with_reducible assumption)
    ((first
      | (go_at_fn num; with_reducible refine (HX.out _ (by assumption)).mono ?_; rintro e w2 ⟨rfl, hS2⟩)
      | (go_at_fn num; with_reducible refine (HY.out _ (by assumption)).mono ?_; rintro e w2 ⟨rfl, hS2⟩)
      | (go_at_call 72; with_reducible refine (HC.out _).mono ?_; rintro e w2 ⟨rfl, rfl⟩)))
  all_goals go_wp2_with fail
  all_goals go_ret
  all_goals exact ⟨rfl, HB0.out.trans hS2.2⟩
/-- A comparison's value, as the world holds what it has captured. -/
def CmpAt (lo : Nat) (W : World) (v : Value) (cf : Ld → Ld → Int) : Prop :=
  ∃ g cb, v = .func (.func g) #[] cb ∧ (∀ args w, (callFunc g args).run Try.prog w = .ok (.enter g args) w) ∧ ∀ V, W.heap.size ≤ V.heap.size → (∀ b, lo ≤ b → b < W.heap.size → V.heap[b]? = W.heap[b]?) → ∀ x y : Ld, Calls Try.prog g (#[x.v, y.v] ++ cb) V fun e V' => e = .returned (.int .i64 (cf x y)) ∧ Bg V V'
theorem CmpAt.keep {lo : Nat} {W V : World} {v : Value} {cf : Ld → Ld → Int} (h : CmpAt lo W v cf) (hs : W.heap.size ≤ V.heap.size) (hB : ∀ b, lo ≤ b → b < W.heap.size → V.heap[b]? = W.heap[b]?) : CmpAt lo V v cf := by
  obtain ⟨g, cb, h1, h2, h3⟩ := h
  exact ⟨g, cb, h1, h2, fun X hs2 hX x y => h3 X (Nat.le_trans hs hs2) (fun b hl hb => (hX b hl (Nat.lt_of_lt_of_le hb hs)).trans (hB b hl hb)) x y⟩
theorem CmpAt.call {lo : Nat} {W V : World} {v : Value} {cf : Ld → Ld → Int} (h : CmpAt lo W v cf) (hB : Below W.heap.size W V) : CmpAt lo V v cf := h.keep hB.size fun b _ hb => hB.block b hb
theorem cell_blk {lo : Nat} {W V : World} {a : Addr} {v : Value} (h : ∀ b, lo ≤ b → b < W.heap.size → V.heap[b]? = W.heap[b]?) (hl : lo ≤ a.block) (hc : W.cell? a = some v) : V.cell? a = some v :=
  (World.cell?_of_block (w := W) (h _ hl (World.block_lt_of_cell? _ _ hc))).trans hc
theorem cell_bg {W V : World} {a : Addr} {v : Value} (h : Bg W V) (hc : W.cell? a = some v) : V.cell? a = some v := below_cell h.bel hc
def byC (f : Ld → Int) (x y : Ld) : Int := cmpI (f x) (f y)
def revC (c : Ld → Ld → Int) (x y : Ld) : Int := c y x
def thenC (c d : Ld → Ld → Int) (x y : Ld) : Int := orI [c x y, d x y]
set_option maxHeartbeats 2000000 in
theorem pby_any (num : Nat) (f : Ld → Int) (hN : NumAt num f) (lo : Nat) (w : World) (hlo : lo ≤ w.heap.size) :
    Calls Try.prog 54 #[.func (.func num) #[] #[]] w fun e w' => ∃ v, e = .returned (.agg #[v]) ∧ CmpAt lo w' v (byC f) ∧ Below w.heap.size w w' := by
  have HF : Hid (∀ W' : World, W'.cell? ⟨w.heap.size, 0, none⟩ = some (.func (.func num) #[] #[]) → CmpAt lo W' (.func (.func 71) #[] #[bp w.heap.size]) (byC f)) :=
    Lib.hid (fun W' h => ⟨_, _, rfl, enters_of Try.func71 (by kernel_rfl) rfl, fun V hs hV x y => pby1_any num f hN w.heap.size x y V (cell_blk hV hlo h)⟩)
  clear hN
  go_enter Try.func54, Try.ntmps54
  go_wp2_with fail
  exact bodyPost_ret (v := .agg #[.func (.func 71) #[] #[bp w.heap.size]]) (by simp [results, Try.results54, go_sem, cell_new2]) rfl ⟨_, rfl, HF.out _ (cell_under _ (cell_top _ _ _ _)), bel2 w _ _⟩
set_option maxHeartbeats 2000000 in
theorem prev1_any (g : Nat) (cb : Array Value) (c : Ld → Ld → Int) (Bo : Nat) (x y : Ld) (w : World) (hb : w.cell? ⟨Bo, 0, none⟩ = some (.func (.func g) #[] cb)) (eg : ∀ args w, (callFunc g args).run Try.prog w = .ok (.enter g args) w)
    (hC : ∀ V, Bg w V → ∀ x y : Ld, Calls Try.prog g (#[x.v, y.v] ++ cb) V fun e V' => e = .returned (.int .i64 (c x y)) ∧ Bg V V') :
    Calls Try.prog 75 #[x.v, y.v, bp Bo] w fun e w' => e = .returned (.int .i64 (revC c x y)) ∧ Bg w w' := by
  have hb2 := cell_under (.cells #[.int .i64 y.id, .int .i64 y.pow, .int .i64 y.pri, .bool y.ess] 41) (cell_under (.cells #[.int .i64 x.id, .int .i64 x.pow, .int .i64 x.pri, .bool x.ess] 41) hb)
  have HB0 : Hid (Bg w ((w.alloc (.cells #[.int .i64 x.id, .int .i64 x.pow, .int .i64 x.pri, .bool x.ess] 41)).alloc (.cells #[.int .i64 y.id, .int .i64 y.pow, .int .i64 y.pri, .bool y.ess] 41))) := Lib.hid (((Bg.refl w).alloc _).alloc _)
  have HC := Lib.hid (hC _ HB0.out y x)
  unfold revC
  generalize c y x = r at *
  clear hC hb
  go_enter Try.func75, Try.ntmps75
  go_wp2_with (go_at_fn g; with_reducible refine HC.out.mono ?_; rintro e w2 ⟨rfl, hS2⟩)
  go_ret
  exact ⟨rfl, HB0.out.trans hS2⟩
set_option maxHeartbeats 2000000 in
theorem prev_any (v : Value) (c : Ld → Ld → Int) (lo : Nat) (w : World) (hlo : lo ≤ w.heap.size) (h : CmpAt lo w v c) :
    Calls Try.prog 58 #[.agg #[v]] w fun e w' => ∃ v, e = .returned (.agg #[v]) ∧ CmpAt lo w' v (revC c) ∧ Below w.heap.size w w' := by
  obtain ⟨g, cb, rfl, h2, h3⟩ := h
  have HF : Hid (∀ W' : World, Below w.heap.size w W' → W'.cell? ⟨w.heap.size, 0, none⟩ = some (.func (.func g) #[] cb) → CmpAt lo W' (.func (.func 75) #[] #[bp w.heap.size]) (revC c)) :=
    Lib.hid (fun W' hB h => ⟨_, _, rfl, enters_of Try.func75 (by kernel_rfl) rfl, fun V hs hV x y => prev1_any g cb c w.heap.size x y V (cell_blk hV hlo h) h2 (fun X hX => h3 X (by have := hB.size; have := hX.bel.size; omega) (fun b hl hb => (hX.bel.block b (by have := hB.size; omega)).trans ((hV b hl (Nat.lt_of_lt_of_le hb hB.size)).trans (hB.block b hb))))⟩)
  clear h2 h3
  go_enter Try.func58, Try.ntmps58
  go_wp2_with fail
  exact bodyPost_ret (v := .agg #[.func (.func 75) #[] #[bp w.heap.size]]) (by simp [results, Try.results58, go_sem, cell_new2]) rfl ⟨_, rfl, HF.out _ (bel2 w _ _) (cell_under _ (cell_top _ _ _ _)), bel2 w _ _⟩
set_option maxHeartbeats 4000000 in
theorem pthen1_any (g1 g2 : Nat) (cb1 cb2 : Array Value) (c1 c2 : Ld → Ld → Int) (B1 B2 : Nat) (x y : Ld) (w : World) (hb1 : w.cell? ⟨B1, 0, none⟩ = some (.func (.func g1) #[] cb1)) (hb2 : w.cell? ⟨B2, 0, none⟩ = some (.func (.func g2) #[] cb2))
    (eg1 : ∀ args w, (callFunc g1 args).run Try.prog w = .ok (.enter g1 args) w) (hC1 : ∀ V, Bg w V → ∀ x y : Ld, Calls Try.prog g1 (#[x.v, y.v] ++ cb1) V fun e V' => e = .returned (.int .i64 (c1 x y)) ∧ Bg V V')
    (eg2 : ∀ args w, (callFunc g2 args).run Try.prog w = .ok (.enter g2 args) w) (hC2 : ∀ V, Bg w V → ∀ x y : Ld, Calls Try.prog g2 (#[x.v, y.v] ++ cb2) V fun e V' => e = .returned (.int .i64 (c2 x y)) ∧ Bg V V') :
    Calls Try.prog 73 #[x.v, y.v, bp B1, bp B2] w fun e w' => e = .returned (.int .i64 (thenC c1 c2 x y)) ∧ Bg w w' := by
  have N1 := cell_new_all w x (.cells #[.int .i64 y.id, .int .i64 y.pow, .int .i64 y.pri, .bool y.ess] 41)
  have N2 : (((w.alloc (.cells #[.int .i64 x.id, .int .i64 x.pow, .int .i64 x.pri, .bool x.ess] 41)).alloc (.cells #[.int .i64 y.id, .int .i64 y.pow, .int .i64 y.pri, .bool y.ess] 41)).cell? ⟨w.heap.size + 1, 0, none⟩ = some (.int .i64 y.id) ∧ ((w.alloc (.cells #[.int .i64 x.id, .int .i64 x.pow, .int .i64 x.pri, .bool x.ess] 41)).alloc (.cells #[.int .i64 y.id, .int .i64 y.pow, .int .i64 y.pri, .bool y.ess] 41)).cell? ⟨w.heap.size + 1, 1, none⟩ = some (.int .i64 y.pow) ∧ ((w.alloc (.cells #[.int .i64 x.id, .int .i64 x.pow, .int .i64 x.pri, .bool x.ess] 41)).alloc (.cells #[.int .i64 y.id, .int .i64 y.pow, .int .i64 y.pri, .bool y.ess] 41)).cell? ⟨w.heap.size + 1, 2, none⟩ = some (.int .i64 y.pri) ∧ ((w.alloc (.cells #[.int .i64 x.id, .int .i64 x.pow, .int .i64 x.pri, .bool x.ess] 41)).alloc (.cells #[.int .i64 y.id, .int .i64 y.pow, .int .i64 y.pri, .bool y.ess] 41)).cell? ⟨w.heap.size + 1, 3, none⟩ = some (.bool y.ess)) := ⟨cell_new2 w _ _ _ _, cell_new2 w _ _ _ _, cell_new2 w _ _ _ _, cell_new2 w _ _ _ _⟩
  have hk1 := cell_under (.cells #[.int .i64 y.id, .int .i64 y.pow, .int .i64 y.pri, .bool y.ess] 41) (cell_under (.cells #[.int .i64 x.id, .int .i64 x.pow, .int .i64 x.pri, .bool x.ess] 41) hb1)
  have hk2 := cell_under (.cells #[.int .i64 y.id, .int .i64 y.pow, .int .i64 y.pri, .bool y.ess] 41) (cell_under (.cells #[.int .i64 x.id, .int .i64 x.pow, .int .i64 x.pri, .bool x.ess] 41) hb2)
  have HB0 : Hid (Bg w ((w.alloc (.cells #[.int .i64 x.id, .int .i64 x.pow, .int .i64 x.pri, .bool x.ess] 41)).alloc (.cells #[.int .i64 y.id, .int .i64 y.pow, .int .i64 y.pri, .bool y.ess] 41))) := Lib.hid (((Bg.refl w).alloc _).alloc _)
  have HC1 := Lib.hid (fun V h => hC1 V h x y)
  have HC2 := Lib.hid (fun V h => hC2 V h x y)
  unfold thenC
  generalize c1 x y = d1 at *
  generalize c2 x y = d2 at *
  have HO : Hid (∀ W : World, Calls Try.prog 74 #[.slice (some ⟨W.heap.size, 0, none⟩) 2 2] (W.alloc (.cells #[.int .i64 d1, .int .i64 d2] 3)) fun e w' => e = .returned (.int .i64 (orI [d1, d2])) ∧ w' = W.alloc (.cells #[.int .i64 d1, .int .i64 d2] 3)) := Lib.hid (fun W => or_any (some ⟨W.heap.size, 0, none⟩) 2 _ [d1, d2] _ (by simp) (RdI_lit W .i64 3 #[.int .i64 d1, .int .i64 d2] [d1, d2] rfl))
  generalize orI [d1, d2] = res at *
  clear hC1 hC2 hb1 hb2
  go_enter Try.func73, Try.ntmps73
  go_wp2_with fail
  generalize (w.alloc (.cells #[.int .i64 x.id, .int .i64 x.pow, .int .i64 x.pri, .bool x.ess] 41)).alloc (.cells #[.int .i64 y.id, .int .i64 y.pow, .int .i64 y.pri, .bool y.ess] 41) = W0 at *
  have HS0 : (W0.drew.cell? ⟨B1, 0, none⟩ = some (.func (.func g1) #[] cb1) ∧ W0.drew.cell? ⟨B2, 0, none⟩ = some (.func (.func g2) #[] cb2) ∧ (W0.drew.cell? ⟨w.heap.size, 0, none⟩ = some (.int .i64 x.id) ∧ W0.drew.cell? ⟨w.heap.size, 1, none⟩ = some (.int .i64 x.pow) ∧ W0.drew.cell? ⟨w.heap.size, 2, none⟩ = some (.int .i64 x.pri) ∧ W0.drew.cell? ⟨w.heap.size, 3, none⟩ = some (.bool x.ess)) ∧ (W0.drew.cell? ⟨w.heap.size + 1, 0, none⟩ = some (.int .i64 y.id) ∧ W0.drew.cell? ⟨w.heap.size + 1, 1, none⟩ = some (.int .i64 y.pow) ∧ W0.drew.cell? ⟨w.heap.size + 1, 2, none⟩ = some (.int .i64 y.pri) ∧ W0.drew.cell? ⟨w.heap.size + 1, 3, none⟩ = some (.bool y.ess))) ∧ Bg W0 W0.drew := ⟨⟨hk1, hk2, N1, N2⟩, (Bg.refl W0).drew⟩
  have HX : Hid (∀ V, (V.cell? ⟨B1, 0, none⟩ = some (.func (.func g1) #[] cb1) ∧ V.cell? ⟨B2, 0, none⟩ = some (.func (.func g2) #[] cb2) ∧ (V.cell? ⟨w.heap.size, 0, none⟩ = some (.int .i64 x.id) ∧ V.cell? ⟨w.heap.size, 1, none⟩ = some (.int .i64 x.pow) ∧ V.cell? ⟨w.heap.size, 2, none⟩ = some (.int .i64 x.pri) ∧ V.cell? ⟨w.heap.size, 3, none⟩ = some (.bool x.ess)) ∧ (V.cell? ⟨w.heap.size + 1, 0, none⟩ = some (.int .i64 y.id) ∧ V.cell? ⟨w.heap.size + 1, 1, none⟩ = some (.int .i64 y.pow) ∧ V.cell? ⟨w.heap.size + 1, 2, none⟩ = some (.int .i64 y.pri) ∧ V.cell? ⟨w.heap.size + 1, 3, none⟩ = some (.bool y.ess))) ∧ Bg W0 V → Calls Try.prog g1 (#[x.v, y.v] ++ cb1) V fun e V' => e = .returned (.int .i64 d1) ∧ ((V'.cell? ⟨B1, 0, none⟩ = some (.func (.func g1) #[] cb1) ∧ V'.cell? ⟨B2, 0, none⟩ = some (.func (.func g2) #[] cb2) ∧ (V'.cell? ⟨w.heap.size, 0, none⟩ = some (.int .i64 x.id) ∧ V'.cell? ⟨w.heap.size, 1, none⟩ = some (.int .i64 x.pow) ∧ V'.cell? ⟨w.heap.size, 2, none⟩ = some (.int .i64 x.pri) ∧ V'.cell? ⟨w.heap.size, 3, none⟩ = some (.bool x.ess)) ∧ (V'.cell? ⟨w.heap.size + 1, 0, none⟩ = some (.int .i64 y.id) ∧ V'.cell? ⟨w.heap.size + 1, 1, none⟩ = some (.int .i64 y.pow) ∧ V'.cell? ⟨w.heap.size + 1, 2, none⟩ = some (.int .i64 y.pri) ∧ V'.cell? ⟨w.heap.size + 1, 3, none⟩ = some (.bool y.ess))) ∧ Bg W0 V')) := Lib.hid (fun V h => (HC1.out V (HB0.out.trans h.2)).mono fun e V' ⟨h1, h2⟩ => ⟨h1, ⟨below_cell h2.bel h.1.1, below_cell h2.bel h.1.2.1, all_below h2.bel h.1.2.2.1, all_below h2.bel h.1.2.2.2⟩, h.2.trans h2⟩)
  have HY : Hid (∀ V, (V.cell? ⟨B1, 0, none⟩ = some (.func (.func g1) #[] cb1) ∧ V.cell? ⟨B2, 0, none⟩ = some (.func (.func g2) #[] cb2) ∧ (V.cell? ⟨w.heap.size, 0, none⟩ = some (.int .i64 x.id) ∧ V.cell? ⟨w.heap.size, 1, none⟩ = some (.int .i64 x.pow) ∧ V.cell? ⟨w.heap.size, 2, none⟩ = some (.int .i64 x.pri) ∧ V.cell? ⟨w.heap.size, 3, none⟩ = some (.bool x.ess)) ∧ (V.cell? ⟨w.heap.size + 1, 0, none⟩ = some (.int .i64 y.id) ∧ V.cell? ⟨w.heap.size + 1, 1, none⟩ = some (.int .i64 y.pow) ∧ V.cell? ⟨w.heap.size + 1, 2, none⟩ = some (.int .i64 y.pri) ∧ V.cell? ⟨w.heap.size + 1, 3, none⟩ = some (.bool y.ess))) ∧ Bg W0 V → Calls Try.prog g2 (#[x.v, y.v] ++ cb2) V fun e V' => e = .returned (.int .i64 d2) ∧ ((V'.cell? ⟨B1, 0, none⟩ = some (.func (.func g1) #[] cb1) ∧ V'.cell? ⟨B2, 0, none⟩ = some (.func (.func g2) #[] cb2) ∧ (V'.cell? ⟨w.heap.size, 0, none⟩ = some (.int .i64 x.id) ∧ V'.cell? ⟨w.heap.size, 1, none⟩ = some (.int .i64 x.pow) ∧ V'.cell? ⟨w.heap.size, 2, none⟩ = some (.int .i64 x.pri) ∧ V'.cell? ⟨w.heap.size, 3, none⟩ = some (.bool x.ess)) ∧ (V'.cell? ⟨w.heap.size + 1, 0, none⟩ = some (.int .i64 y.id) ∧ V'.cell? ⟨w.heap.size + 1, 1, none⟩ = some (.int .i64 y.pow) ∧ V'.cell? ⟨w.heap.size + 1, 2, none⟩ = some (.int .i64 y.pri) ∧ V'.cell? ⟨w.heap.size + 1, 3, none⟩ = some (.bool y.ess))) ∧ Bg W0 V')) := Lib.hid (fun V h => (HC2.out V (HB0.out.trans h.2)).mono fun e V' ⟨h1, h2⟩ => ⟨h1, ⟨below_cell h2.bel h.1.1, below_cell h2.bel h.1.2.1, all_below h2.bel h.1.2.2.1, all_below h2.bel h.1.2.2.2⟩, h.2.trans h2⟩)
  have HA : Hid (∀ (V : World) (o : Obj), (V.cell? ⟨B1, 0, none⟩ = some (.func (.func g1) #[] cb1) ∧ V.cell? ⟨B2, 0, none⟩ = some (.func (.func g2) #[] cb2) ∧ (V.cell? ⟨w.heap.size, 0, none⟩ = some (.int .i64 x.id) ∧ V.cell? ⟨w.heap.size, 1, none⟩ = some (.int .i64 x.pow) ∧ V.cell? ⟨w.heap.size, 2, none⟩ = some (.int .i64 x.pri) ∧ V.cell? ⟨w.heap.size, 3, none⟩ = some (.bool x.ess)) ∧ (V.cell? ⟨w.heap.size + 1, 0, none⟩ = some (.int .i64 y.id) ∧ V.cell? ⟨w.heap.size + 1, 1, none⟩ = some (.int .i64 y.pow) ∧ V.cell? ⟨w.heap.size + 1, 2, none⟩ = some (.int .i64 y.pri) ∧ V.cell? ⟨w.heap.size + 1, 3, none⟩ = some (.bool y.ess))) ∧ Bg W0 V → ((V.alloc o).cell? ⟨B1, 0, none⟩ = some (.func (.func g1) #[] cb1) ∧ (V.alloc o).cell? ⟨B2, 0, none⟩ = some (.func (.func g2) #[] cb2) ∧ ((V.alloc o).cell? ⟨w.heap.size, 0, none⟩ = some (.int .i64 x.id) ∧ (V.alloc o).cell? ⟨w.heap.size, 1, none⟩ = some (.int .i64 x.pow) ∧ (V.alloc o).cell? ⟨w.heap.size, 2, none⟩ = some (.int .i64 x.pri) ∧ (V.alloc o).cell? ⟨w.heap.size, 3, none⟩ = some (.bool x.ess)) ∧ ((V.alloc o).cell? ⟨w.heap.size + 1, 0, none⟩ = some (.int .i64 y.id) ∧ (V.alloc o).cell? ⟨w.heap.size + 1, 1, none⟩ = some (.int .i64 y.pow) ∧ (V.alloc o).cell? ⟨w.heap.size + 1, 2, none⟩ = some (.int .i64 y.pri) ∧ (V.alloc o).cell? ⟨w.heap.size + 1, 3, none⟩ = some (.bool y.ess))) ∧ Bg W0 (V.alloc o)) := Lib.hid (fun V o h => ⟨⟨cell_under o h.1.1, cell_under o h.1.2.1, all_below (bel1 V o) h.1.2.2.1, all_below (bel1 V o) h.1.2.2.2⟩, h.2.alloc o⟩)
  clear hk1 hk2 N1 N2
  go_region_held3 (fun V => (V.cell? ⟨B1, 0, none⟩ = some (.func (.func g1) #[] cb1) ∧ V.cell? ⟨B2, 0, none⟩ = some (.func (.func g2) #[] cb2) ∧ (V.cell? ⟨w.heap.size, 0, none⟩ = some (.int .i64 x.id) ∧ V.cell? ⟨w.heap.size, 1, none⟩ = some (.int .i64 x.pow) ∧ V.cell? ⟨w.heap.size, 2, none⟩ = some (.int .i64 x.pri) ∧ V.cell? ⟨w.heap.size, 3, none⟩ = some (.bool x.ess)) ∧ (V.cell? ⟨w.heap.size + 1, 0, none⟩ = some (.int .i64 y.id) ∧ V.cell? ⟨w.heap.size + 1, 1, none⟩ = some (.int .i64 y.pow) ∧ V.cell? ⟨w.heap.size + 1, 2, none⟩ = some (.int .i64 y.pri) ∧ V.cell? ⟨w.heap.size + 1, 3, none⟩ = some (.bool y.ess))) ∧ Bg W0 V) (with_reducible (first | assumption | exact HA.out _ _ (by assumption)))
    ((first
      | (go_at_fn g1; with_reducible refine (HX.out _ (by assumption)).mono ?_; rintro e w2 ⟨rfl, hS2⟩)
      | (go_at_fn g2; with_reducible refine (HY.out _ (by assumption)).mono ?_; rintro e w2 ⟨rfl, hS2⟩)
      | (go_at_call 74; with_reducible refine (HO.out _).mono ?_; rintro e w2 ⟨rfl, rfl⟩)))
  all_goals go_wp2_with fail
  all_goals go_ret
  all_goals exact ⟨rfl, HB0.out.trans (hS2.2.alloc _)⟩
set_option maxHeartbeats 2000000 in
theorem pthen_any (v1 v2 : Value) (c1 c2 : Ld → Ld → Int) (lo : Nat) (w : World) (hlo : lo ≤ w.heap.size) (h : CmpAt lo w v1 c1) (h' : CmpAt lo w v2 c2) :
    Calls Try.prog 56 #[.agg #[v1], .agg #[v2]] w fun e w' => ∃ v, e = .returned (.agg #[v]) ∧ CmpAt lo w' v (thenC c1 c2) ∧ Below w.heap.size w w' := by
  obtain ⟨g1, cb1, rfl, h2, h3⟩ := h
  obtain ⟨g2, cb2, rfl, h2', h3'⟩ := h'
  have HF : Hid (∀ W' : World, Below w.heap.size w W' → W'.cell? ⟨w.heap.size, 0, none⟩ = some (.func (.func g1) #[] cb1) → W'.cell? ⟨w.heap.size + 1, 0, none⟩ = some (.func (.func g2) #[] cb2) → CmpAt lo W' (.func (.func 73) #[] #[bp w.heap.size, bp (w.heap.size + 1)]) (thenC c1 c2)) :=
    Lib.hid (fun W' hB h k => ⟨_, _, rfl, enters_of Try.func73 (by kernel_rfl) rfl, fun V hs hV x y => pthen1_any g1 g2 cb1 cb2 c1 c2 _ _ x y V (cell_blk hV hlo h) (cell_blk hV (Nat.le_succ_of_le hlo) k) h2 (fun X hX => h3 X (by have := hB.size; have := hX.bel.size; omega) (fun b hl hb => (hX.bel.block b (by have := hB.size; omega)).trans ((hV b hl (Nat.lt_of_lt_of_le hb hB.size)).trans (hB.block b hb)))) h2' (fun X hX => h3' X (by have := hB.size; have := hX.bel.size; omega) (fun b hl hb => (hX.bel.block b (by have := hB.size; omega)).trans ((hV b hl (Nat.lt_of_lt_of_le hb hB.size)).trans (hB.block b hb))))⟩)
  clear h2 h3 h2' h3'
  go_enter Try.func56, Try.ntmps56
  go_wp2_with fail
  exact bodyPost_ret (v := .agg #[.func (.func 73) #[] #[bp w.heap.size, bp (w.heap.size + 1)]]) (by simp [results, Try.results56, go_sem, cell_new3]) rfl ⟨_, rfl, HF.out _ (bt (bel2 w _ _) (bel1 _ _)) (cell_under _ (cell_under _ (cell_top _ _ _ _))) (cell_under _ (cell_new2 _ _ _ _ _)), bt (bel2 w _ _) (bel1 _ _)⟩
/-- The order of service as the landed comparison has it. -/
def cmpL : Ld → Ld → Int := thenC (thenC (byC cls) (revC (byC prio))) (byC fun x => x.id)
theorem cmpI_neg (x y : Int) : (cmpI x y < 0 ↔ x < y) ∧ (cmpI x y = 0 ↔ x = y) := by
  unfold cmpI
  repeat' split
  all_goals omega
theorem cmpL_bef (a b : Ld) : cmpL a b < 0 ↔ bef a b = true := by
  obtain ⟨ai, ap, ar, ae⟩ := a
  obtain ⟨bi, bp, br, be⟩ := b
  unfold cmpL thenC byC revC cls prio bef
  cases ae <;> cases be <;> simp only [orI, reduceCtorEq, if_false, if_true, Bool.false_eq_true, ne_eq, true_and, false_and, decide_eq_true_eq, not_true_eq_false, iff_true, iff_false]
  all_goals unfold cmpI
  all_goals repeat' split
  all_goals (try omega)
  all_goals simp_all
  all_goals (try omega)
set_option maxHeartbeats 4000000 in
/-- The order of service's comparison. -/
theorem pserv_any (w : World) : Calls Try.prog 39 #[] w fun e w' => ∃ v, e = .returned (.agg #[v]) ∧ CmpAt (w.heap.size + 1) w' v cmpL ∧ Below w.heap.size w w' := by
  have H1 := Lib.hid (fun W h => pby_any 55 cls num_class (w.heap.size + 1) W h)
  have H2 := Lib.hid (fun W h => pby_any 57 prio num_prio (w.heap.size + 1) W h)
  have H3 := Lib.hid (fun W h => pby_any 59 (fun x => x.id) num_id (w.heap.size + 1) W h)
  have H4 := Lib.hid (fun v c W h1 h => prev_any v c (w.heap.size + 1) W h1 h)
  have H5 := Lib.hid (fun v1 v2 c1 c2 W h1 h h' => pthen_any v1 v2 c1 c2 (w.heap.size + 1) W h1 h h')
  have hr0 := heap_top w (.cells #[.nilFunc] 72)
  have hs0 : w.heap.size + 1 ≤ (w.alloc (.cells #[.nilFunc] 72)).heap.size := by simp
  have HB0 : Hid (Below w.heap.size w (w.alloc (.cells #[.nilFunc] 72))) := Lib.hid (bel1 w _)
  have HR0 := Lib.hid hr0
  have HS0 := Lib.hid hs0
  clear hr0 hs0
  go_enter Try.func39, Try.ntmps39
  go_wp2_with fail
  generalize w.alloc (.cells #[.nilFunc] 72) = w0 at *
  go_wp2_with (first
    | (go_at_call 54; with_reducible refine (H1.out _ HS0.out).mono ?_; rintro e w1 ⟨v1, rfl, hc1, hb1⟩; have HC1 := Lib.hid hc1; have HB1 := Lib.hid hb1; have HS1 := Lib.hid (Nat.le_trans HS0.out hb1.size); clear hc1 hb1)
    | (go_at_call 54; with_reducible refine (H2.out _ HS1.out).mono ?_; rintro e w2 ⟨v2, rfl, hc2, hb2⟩; have HC2 := Lib.hid hc2; have HB2 := Lib.hid (bt HB1.out hb2); have HC1' := Lib.hid (HC1.out.call hb2); have HS2 := Lib.hid (Nat.le_trans HS1.out hb2.size); clear hc2 hb2)
    | (go_at_call 58; with_reducible refine (H4.out _ _ _ HS2.out HC2.out).mono ?_; rintro e w3 ⟨v3, rfl, hc3, hb3⟩; have HC3 := Lib.hid hc3; have HB3 := Lib.hid (bt HB2.out hb3); have HC1'' := Lib.hid (HC1'.out.call hb3); have HS3 := Lib.hid (Nat.le_trans HS2.out hb3.size); clear hc3 hb3)
    | (go_at_call 56; with_reducible refine (H5.out _ _ _ _ _ HS3.out HC1''.out HC3.out).mono ?_; rintro e w4 ⟨v4, rfl, hc4, hb4⟩; have HC4 := Lib.hid hc4; have HB4 := Lib.hid (bt HB3.out hb4); have HS4 := Lib.hid (Nat.le_trans HS3.out hb4.size); clear hc4 hb4)
    | (go_at_call 54; with_reducible refine (H3.out _ HS4.out).mono ?_; rintro e w5 ⟨v5, rfl, hc5, hb5⟩; have HC5 := Lib.hid hc5; have HB5 := Lib.hid (bt HB4.out hb5); have HC4' := Lib.hid (HC4.out.call hb5); have HS5 := Lib.hid (Nat.le_trans HS4.out hb5.size); clear hc5 hb5)
    | (go_at_call 56; (with_reducible refine (H5.out _ _ _ _ _ HS5.out HC4'.out HC5.out).mono ?_); rintro e w6 ⟨v6, rfl, hc6, hb6⟩; have HC6 := Lib.hid hc6; obtain ⟨g6, cb6, rfl, _, _⟩ := hc6; have HB6' := Lib.hid (bt HB0.out (bt HB5.out hb6)); have hk6 := heap_keep (bt HB5.out hb6) HR0.out; have HK6 := Lib.hid hk6; have c6 := cell_obj hk6 0; have f6 := frz_obj hk6 0; have HS6 := Lib.hid (Nat.le_trans HS5.out hb6.size); clear hb6 hk6))
  generalize hV : w6.setCell ⟨w.heap.size, 0, none⟩ (.func (.func g6) #[] cb6) = V at *
  have hk : V.heap[w.heap.size]? = some (.cells #[.func (.func g6) #[] cb6] 72 (0, 0)) := by rw [← hV]; exact hset _ HK6.out
  have e0 : V.cell? ⟨w.heap.size, 0, none⟩ = some (.func (.func g6) #[] cb6) := by rw [cell_obj hk]; rfl
  have HVB : Hid (Below w.heap.size w V) := Lib.hid (by rw [← hV]; exact HB6'.out.setCell (Nat.le_refl _) _)
  have HVC : Hid (CmpAt (w.heap.size + 1) V (.func (.func g6) #[] cb6) cmpL) := Lib.hid (HC6.out.keep (by rw [← hV]; simp [World.setCell]) (fun b hb _ => by rw [← hV]; exact Below.heap_setCell _ _ _ _ (by simp only; omega)))
  clear hV hk
  exact bodyPost_ret (v := .agg #[.func (.func g6) #[] cb6]) (by simp [results, Try.results39, go_sem, e0]) rfl ⟨_, rfl, HVC.out, HVB.out⟩
end Pw
end Go.Proofs.Ytobbnbelacncjaa
