/-
  A range over an iterator function that writes boxes of its own between two rounds: what the caller holds speaks of what lay before the loop; a round writes blocks of a known set, and new ones. Nothing here speaks of one program.
-/
import Derived.Test.YtobbnbelacncjaaQRng
import Derived.Test.YtobbnbelacncjaaPwRow
namespace Go.Proofs.Ytobbnbelacncjaa
open Go.RowKit
namespace Pw
open H
set_option linter.unusedVariables false
/-- Every block is as it was, but for those of E, and new ones. -/
structure Kb (E : Nat → Prop) (W W' : World) : Prop where
  size : W.heap.size ≤ W'.heap.size
  same : ∀ b, b < W.heap.size → ¬ E b → W'.heap[b]? = W.heap[b]?
theorem Kb.refl (E : Nat → Prop) (W : World) : Kb E W W := ⟨Nat.le_refl _, fun _ _ _ => rfl⟩
theorem Kb.trans {E : Nat → Prop} {A B C : World} (h : Kb E A B) (k : Kb E B C) : Kb E A C := ⟨Nat.le_trans h.size k.size, fun b hb he => (k.same b (Nat.lt_of_lt_of_le hb h.size) he).trans (h.same b hb he)⟩
theorem Kb.of {E : Nat → Prop} {A B : World} (h : Below A.heap.size A B) : Kb E A B := ⟨h.size, fun b hb _ => h.block b hb⟩
theorem Kb.call {E : Nat → Prop} {A B C : World} (h : Kb E A B) (k : Below B.heap.size B C) : Kb E A C := h.trans (Kb.of k)
theorem Kb.set {E : Nat → Prop} {W : World} {b i : Nat} (v : Value) (hE : E b) : Kb E W (W.setCell ⟨b, i, none⟩ v) :=
  ⟨by simp [World.setCell], fun k _ hk => Below.heap_setCell _ _ _ k (fun e => hk (by rw [e]; exact hE))⟩
theorem Kb.put {E : Nat → Prop} (W : World) (l : Nat) (o : Obj) (hE : E l) : Kb E W (W.putObj l o) := ⟨by simp, fun k _ hk => World.putObj_heap_other (fun e => hk (by rw [e]; exact hE))⟩
theorem Kb.more {E E' : Nat → Prop} {A B : World} (h : Kb E A B) (he : ∀ b, E b → E' b) : Kb E' A B := ⟨h.size, fun b hb hn => h.same b hb (fun k => hn (he b k))⟩
theorem Kb.below {E : Nat → Prop} {A B : World} {n : Nat} (h : Kb E A B) (hn : n ≤ A.heap.size) {b : Nat} (hb : b < n) (he : ¬ E b) : B.heap[b]? = A.heap[b]? := h.same b (by omega) he
variable {F : Fence} {n : Nat} {P : Program}
/-- An iterator's word: N rounds, the k-th one with enc k. -/
def SeqB (F : Fence) (n : Nat) (P : Program) (g : Nat) (lb : Array Value) (enc : Nat → Array Value) (N : Nat) (E : Nat → Prop) (w : World) : Prop :=
  ∀ (l : Nat) (J : Nat → World → Prop) (X : World → Prop) (W : World), Below w.heap.size w W → w.heap.size ≤ l → l < W.heap.size →
    (∀ k A B, J k A → Below W.heap.size A B → J k B) →
    (∀ k W1, k < N → J k W1 → W.heap.size ≤ W1.heap.size → YieldAt F (n - 1) P l (enc k) W1 fun e W' => (e = .returned (.bool true) ∧ J (k + 1) W' ∧ Kb (fun b => E b ∨ b = l) W1 W') ∨ (e = .returned (.bool false) ∧ X W')) →
    J 0 W → CallsIn F n P g (#[.func (.yield l) #[] #[]] ++ lb) W fun e W' => (∃ v, e = .returned v) ∧ (J N W' ∨ X W')
/-- How the body of a round is left. -/
def postB (E : Nat → Prop) (J : World → Prop) (Ix : Code → World → Prop) (W : World) : Exit → Act → World → Prop
  | .normal, _, W' => Kb E W W' ∧ J W'
  | .ret, _, W' => Kb E W W' ∧ Ix .ret W'
  | .exit id, _, W' => Kb E W W' ∧ Ix (.exit id) W'
  | _, _, _ => False
theorem put_below {n₀ l : Nat} (W : World) (o o' : Obj) (hl : n₀ ≤ l) (h : W.heap[l]? = some o) : Below n₀ W (W.putObj l o') :=
  (Below.refl n₀ W).grown (grownBy_putObj' W l o') (by have := (Array.getElem?_eq_some_iff.1 h).1; omega) (fun k e => by cases e; omega)
theorem wpIn_rangeB {g : Operand} {ps : Array Tmp} {assign body : Code} {Q : Exit → Act → World → Prop} {a : Act} {w : World}
    (hro : F.round = none) (h1 : 1 ≤ n) {gf : Nat} {lb : Array Value} (hg : a.eval g = .func (.func gf) #[] lb) (hFg : F.fn gf) (eg : ∀ args w, (callFunc gf args).run P w = .ok (.enter gf args) w)
    {enc : Nat → Array Value} {N : Nat} {E : Nat → Prop} {w0 : World} (hseq : SeqB F (n - 1) P gf lb enc N E w0) (hb0 : Below w0.heap.size w0 w) (hps : ∀ k, (enc k).size = ps.size) (hE : ∀ b, E b → b < w.heap.size)
    (I : Nat → World → Prop) (Ix : Code → World → Prop) (hI : ∀ k A B, I k A → Below w.heap.size A B → I k B) (hIx : ∀ c A B, Ix c A → Below w.heap.size A B → Ix c B) (h0 : I 0 w) (Ax : Nat → Act → World → Prop) (hAx : ∀ k a', OwnFrom w.heap.size (fun (_ : Unit) W => Ax k a' W))
    (hassign : ∀ (l k : Nat) (W : World) (K : Act → World → Prop), k < N → I k W → w.heap.size ≤ W.heap.size → (∀ a' W', Below W.heap.size W W' → Ax k a' W' → K a' W') →
      assign.wpIn (F.inRound l) (n - 1 - 1) P (Exit.then K (fun _ _ _ => False)) { tmps := (ps.zip (enc k)).foldl (fun t (p, v) => t.setIfInBounds p v) a.tmps, defers := [] } W)
    (hbody : ∀ (l k : Nat) (a' : Act) (W : World), w.heap.size ≤ l → l < W.heap.size → k < N → I k W → Ax k a' W → body.wpIn (F.inRound l) (n - 1 - 1) P (postB E (I (k + 1)) Ix W) a' W)
    (hdone : ∀ (D : Nat) (W : World), w.heap.size ≤ D → I N W → W.heap[D]? = some (.deferred (some [])) → Q .normal { a with defers := { target := .collected D, args := #[] } :: a.defers } W)
    (hstop : ∀ (D : Nat) (c : Code) (W : World), w.heap.size ≤ D → Ix c W → W.heap[D]? = some (.deferred (some [])) → c.wpIn F n P Q { a with defers := { target := .collected D, args := #[] } :: a.defers } W) :
    (Code.rangeFunc g ps assign body).wpIn F n P Q a w := by
  refine wpIn_rangeFunc fun fn hfn => ?_
  rw [hro]
  obtain ⟨rec, hrec⟩ : ∃ rec : LoopState → Option Code → Loop, rec = fun st pe => { state := st, pending := pe, fn, tmps := a.tmps, params := ps, assign, body, defers := w.heap.size } := ⟨_, rfl⟩
  obtain ⟨W1, hW1⟩ : ∃ W1, (w.alloc (.deferred (some []))).alloc (.loop (rec .ready none)) = W1 := ⟨_, rfl⟩
  have hs1 : W1.heap.size = w.heap.size + 2 := by rw [← hW1]; simp
  have hL : W1.heap[w.heap.size + 1]? = some (.loop (rec .ready none)) := by
    rw [← hW1]
    have := World.alloc_heap_new (w.alloc (.deferred (some []))) (.loop (rec .ready none))
    rwa [World.size_alloc] at this
  have hD : W1.heap[w.heap.size]? = some (.deferred (some [])) := by
    rw [← hW1]
    exact (Below.heap_alloc _ _ _ (by simp)).trans (World.alloc_heap_new w _)
  have hBw1 : Below w.heap.size w W1 := by rw [← hW1]; exact bel2 w _ _
  have hI1 : I 0 W1 := hI _ _ _ h0 hBw1
  have hb1 : Below w0.heap.size w0 W1 := hb0.trans (hBw1.mono hb0.size)
  refine ⟨w.heap.size + 1, [{ target := .collected w.heap.size, args := #[] }], W1, { target := .fn (.func gf) lb, args := #[.func (.yield (w.heap.size + 1)) #[] #[]] }, W1, gf,
    #[.func (.yield (w.heap.size + 1)) #[] #[]] ++ lb, W1, ?_, ?_, ?_, ?_, fun _ => h1, ?_⟩
  · rw [← hW1, hrec]
    exact run_enterLoop_outer _ _ _ _ _
  · simp only [resolve, hg]
    simp [go_sem]
  · intro f' hf'
    simp [Target.leads] at hf'
    subst hf'
    exact hFg
  · simp [invoke, go_sem, eg]
  · refine (hseq (w.heap.size + 1)
      (fun k W => I k W ∧ W.heap[w.heap.size + 1]? = some (.loop (rec .ready none)) ∧ W.heap[w.heap.size]? = some (.deferred (some [])))
      (fun W => ∃ c, Ix c W ∧ W.heap[w.heap.size + 1]? = some (.loop (rec .done (some c))) ∧ W.heap[w.heap.size]? = some (.deferred (some [])))
      W1 hb1 (by have := hb0.size; omega) (by omega)
      (fun k A B ⟨h2, h3, h4⟩ hAB => ⟨hI _ _ _ h2 (hAB.mono (by omega)), (hAB.block _ (by omega)).trans h3, (hAB.block _ (by omega)).trans h4⟩)
      ?_ ⟨hI1, hL, hD⟩).mono ?_
    · rintro k W hk ⟨hi, hl, hd⟩ hsz
      have hy := run_yield (P := P) (args := enc k) hl (by rw [hrec]; exact hps k)
      rw [hrec] at hy
      refine ⟨fn, _, assign, body, hy, roundIn_of_wpIn hfn (hassign _ k W _ hk hi (by omega) ?_)⟩
      clear hy
      intro a' Wa hBa hax
      have hla := (hBa.block _ (hlt_of hl)).trans hl
      have hda := (hBa.block _ (hlt_of hd)).trans hd
      have hia : I k Wa := hI _ _ _ hi (hBa.mono (by omega))
      refine ⟨_, run_beginRound hla (by rw [hrec]), ?_⟩
      have hlt : w.heap.size + 1 < Wa.heap.size := hlt_of hla
      obtain ⟨Wb, hWb⟩ : ∃ Wb, Wb = Wa.putObj (w.heap.size + 1) (.loop { rec .ready none with state := .busy }) := ⟨_, rfl⟩
      have hl2 : Wb.heap[w.heap.size + 1]? = some (.loop { rec .ready none with state := .busy }) := by rw [hWb]; exact World.putObj_heap_same hlt
      have hd2 : Wb.heap[w.heap.size]? = some (.deferred (some [])) := by rw [hWb]; exact (World.putObj_heap_other (by omega)).trans hda
      have hib : I k Wb := by rw [hWb]; exact hI _ _ _ hia (put_below Wa _ _ (by omega) hla)
      have hab : Ax k a' Wb := by rw [hWb]; exact (hAx k a').putObj (s := ()) _ hax (by omega) hla rfl
      have hkb : Kb (fun b => E b ∨ b = w.heap.size + 1) W Wb := (Kb.of hBa).trans (by rw [hWb]; exact Kb.put _ _ _ (.inr rfl))
      have hlb : w.heap.size + 1 < Wb.heap.size := hlt_of hl2
      rw [← hWb]
      refine wpIn_mono (hbody _ k a' Wb (by omega) hlb hk hib hab) ?_
      have nE : ∀ m, w.heap.size ≤ m → ¬ E m := fun m hm he => by have := hE m he; omega
      have fin : ∀ (jump : Option Code) (W3 : World), Kb E Wb W3 →
          (Instr.endRound (w.heap.size + 1) jump).run P W3 = .ok (.bool jump.isNone) (W3.putObj (w.heap.size + 1) (.loop (rec (if jump.isNone then .ready else .done) jump))) ∧
          W3.heap[w.heap.size + 1]? = some (.loop { rec .ready none with state := .busy }) ∧
          (W3.putObj (w.heap.size + 1) (.loop (rec (if jump.isNone then .ready else .done) jump))).heap[w.heap.size + 1]? = some (.loop (rec (if jump.isNone then .ready else .done) jump)) ∧
          (W3.putObj (w.heap.size + 1) (.loop (rec (if jump.isNone then .ready else .done) jump))).heap[w.heap.size]? = some (.deferred (some [])) := fun jump W3 hk3 => by
        have hl3 := (hk3.same _ hlb (nE _ (by omega))).trans hl2
        have hr := run_endRound (P := P) jump hl3
        rw [hrec] at hr ⊢
        exact ⟨hr, by rw [hrec] at hl3; exact hl3, World.putObj_heap_same (hlt_of hl3), (World.putObj_heap_other (by omega)).trans ((hk3.same _ (hlt_of hd2) (nE _ (Nat.le_refl _))).trans hd2)⟩
      rintro e a3 W3 hp
      cases e with
      | normal =>
        obtain ⟨hk3, hi3⟩ := hp
        obtain ⟨hr, hl3, hl4, hd4⟩ := fin none W3 hk3
        exact ⟨_, _, hr, .inl ⟨rfl, ⟨hI _ _ _ hi3 (put_below W3 _ _ (by omega) hl3), hl4, hd4⟩, hkb.trans ((hk3.more fun b h => .inl h).trans (Kb.put _ _ _ (.inr rfl)))⟩⟩
      | ret =>
        obtain ⟨hk3, hi3⟩ := hp
        obtain ⟨hr, hl3, hl4, hd4⟩ := fin (some .ret) W3 hk3
        exact ⟨_, _, hr, .inr ⟨rfl, ⟨.ret, hIx _ _ _ hi3 (put_below W3 _ _ (by omega) hl3), hl4, hd4⟩⟩⟩
      | exit id =>
        obtain ⟨hk3, hi3⟩ := hp
        obtain ⟨hr, hl3, hl4, hd4⟩ := fin (some (.exit id)) W3 hk3
        exact ⟨_, _, hr, .inr ⟨rfl, ⟨.exit id, hIx _ _ _ hi3 (put_below W3 _ _ (by omega) hl3), hl4, hd4⟩⟩⟩
      | goto t => exact hp.elim
      | panic ch => exact hp.elim
      | outgrown => exact hp.elim
    · rintro e W2 ⟨⟨v, rfl⟩, (⟨hi, hl, hd⟩ | ⟨c, hi, hl, hd⟩)⟩
      · have hr := run_endLoop (P := P) hl (by rw [hrec]; simp)
        rw [hrec] at hr
        exact ⟨none, _, hr, hdone _ _ (Nat.le_refl _) (hI _ _ _ hi (put_below W2 _ _ (by omega) hl)) ((World.putObj_heap_other (by omega)).trans hd)⟩
      · have hr := run_endLoop (P := P) hl (by rw [hrec]; simp)
        rw [hrec] at hr
        exact ⟨some c, _, hr, hstop _ c _ (Nat.le_refl _) (hIx _ _ _ hi (put_below W2 _ _ (by omega) hl)) ((World.putObj_heap_other (by omega)).trans hd)⟩
end Pw
end Go.Proofs.Ytobbnbelacncjaa
