/-
  Contract of the landed package memory: Scrub.
-/
import Derived.Test.YtnoohhpajoaaoaaDoorMP4
import Derived.Test.YtnoohhpajoaaoaaDoorMP5
namespace Go.Proofs.YtnoohhpajoaaoaaDoor
open Go.RowKit
attribute [local go_sem] Oper.semAt_some
namespace M
open H
set_option linter.unusedVariables false
set_option maxRecDepth 100000
/-- What Scrub holds through its loop: N: the heap's size where it began. -/
structure SJ (w : World) (b : Nat) (v : Value) (n : Int) (m : Mem) (mk : Mem) (k : Nat) (W : World) : Prop where
  vi : VI b (w.heap.size + 3) v n mk W
  box : W.heap[w.heap.size]? = some (.cells #[.pointer (some ⟨b, 0, none⟩)] 24 (0, 0))
  res : W.heap[w.heap.size + 1]? = some (.cells #[.int .i64 0, .int .i64 0, .int .i64 0] 50 (0, 0))
  cnt : W.heap[w.heap.size + 2]? = some (.cells #[.int .i64 (k : Nat), .int .i64 (m.found 1 k : Nat), .int .i64 (m.found 2 k : Nat)] 50 (0, 0))
  save : Save (FT b v) w W
theorem SJ.drewN {w : World} {b : Nat} {v : Value} {n : Int} {m mk : Mem} {k : Nat} {W : World} (h : SJ w b v n m mk k W) (q : Nat) : SJ w b v n m mk k (W.drewN q) := ⟨h.vi.drewN q, h.box, h.res, h.cnt, h.save.drewN q⟩
theorem SJ.own {w : World} {b : Nat} {v : Value} {n : Int} {m : Mem} (hlt : ∀ k, FT b v k → k < w.heap.size) (f : Nat → Mem) {B : Nat} (hB : w.heap.size ≤ B) : OwnFrom B (fun k W => SJ w b v n m (f k) k W) := by
  intro k W W' row h hg hr
  have hc : ∀ i (o : Obj), W.heap[i]? = some o → o.isCells = true → W'.heap[i]? = some o := fun i o hi hc => by
    rw [hg.block i (Array.getElem?_eq_some_iff.1 hi).1 (fun e => by
      obtain ⟨_, o', ho', hn⟩ := hr i e.symm
      rw [hi] at ho'
      injection ho' with ho'
      subst ho'
      rw [hc] at hn
      cases hn)]
    exact hi
  have hs : Save (fun _ => False) W W' ∨ True := .inr trivial
  have hlow : ∀ i, i < w.heap.size → W'.heap[i]? = W.heap[i]? := fun i hi => hg.block i (by have := h.save.size; omega) (fun e => by have := (hr i e.symm).1; omega)
  refine ⟨⟨hc _ _ h.vi.boxm rfl, hc _ _ h.vi.boxn rfl, Obj1.as h.vi.pm fun i hi => hlow i (hlt i hi)⟩, hc _ _ h.box rfl, hc _ _ h.res rfl, hc _ _ h.cnt rfl, ?_⟩
  exact ⟨hg.os.trans h.save.os, hg.tape.trans h.save.tape, hg.output.trans h.save.output, Nat.le_trans h.save.size hg.size, fun i hi hf => (hlow i hi).trans (h.save.block i hi hf)⟩
theorem get_alloc {w A : World} {cs : Array Value} {t : TypeId} (hA : A = w.alloc (.cells cs t)) {i : Nat} (hi : i = w.heap.size) : A.heap[i]? = some (.cells cs t (0, 0)) := by
  subst hA hi
  exact heap_alloc_new w _
theorem get_old {w A : World} {o : Obj} (hA : A = w.alloc o) {i : Nat} (hi : i < w.heap.size) : A.heap[i]? = w.heap[i]? := by
  subst hA
  exact Below.heap_alloc _ _ _ hi
/-- The table's block is none of a memory's. -/
theorem PM.tab_off {w : World} {b : Nat} {v : Value} {m : Mem} (h : PM w b v m) (hm : m.ok) (tb : E.Tab w) : ¬ FT b v 0 := by
  intro hk
  have ht := tb 0 (by decide)
  rcases hk with hk | hk
  · subst hk
    have c0 := blk_cell h.blk 0
    obtain ⟨ad, c, rfl⟩ := h.len
    rw [ht] at c0
    simp [pcs] at c0
  · obtain ⟨g, c, rfl, _, _, _⟩ := h.shape hm
    have hg : g = 0 := by simpa [Value.ownBlock] using hk
    have c0 := h.code (k := 0) hm.pos
    rw [hg, ht] at c0
    simp at c0
theorem tab_save {w w' : World} {F : Nat → Prop} (tb : E.Tab w) (hs : Save F w w') (hF : ¬ F 0) : E.Tab w' := fun i hi => by
  have := hs.block _ tb.pos hF
  rw [← tb i hi]
  simp [World.cell?, this]
theorem PM.own_next {w : World} {b : Nat} {v : Value} {m : Mem} (h : PM w b v m) (x : Nat) : PM (w.setCell ⟨b, 1, none⟩ (.int .i64 (x : Nat))) b v { m with next := x } := h.set 1 _ { m with next := x } (by simp [pcs]) rfl
/-- The position moves on. -/
theorem SJ.move {w : World} {b : Nat} {v : Value} {n : Int} {m mk : Mem} {k : Nat} {W : World} (hlt : ∀ k, FT b v k → k < w.heap.size) (h : SJ w b v n m mk k W) (x : Nat) : SJ w b v n m { mk with next := x } k (W.setCell ⟨b, 1, none⟩ (.int .i64 (x : Nat))) := by
  have hb := hlt b (.inl rfl)
  have ho : ∀ i, w.heap.size ≤ i → (W.setCell ⟨b, 1, none⟩ (.int .i64 (x : Nat))).heap[i]? = W.heap[i]? := fun i hi => Below.heap_setCell _ _ _ _ (by show i ≠ b; omega)
  exact ⟨⟨(ho _ (by omega)).trans h.vi.boxm, (ho _ (by omega)).trans h.vi.boxn, h.vi.pm.own_next x⟩, (ho _ (by omega)).trans h.box, (ho _ (by omega)).trans h.res, (ho _ (by omega)).trans h.cnt, h.save.setCell (p := ⟨b, 1, none⟩) (.inl rfl) _⟩
/-- A round has been counted. -/
theorem SJ.tally {w : World} {b : Nat} {v : Value} {n : Int} {m mk : Mem} {k : Nat} {W W' : World} (hlt : ∀ k, FT b v k → k < w.heap.size) (h : SJ w b v n m mk k W) (hs : Save (fun i => i = w.heap.size + 2) W W')
    (hc : W'.heap[w.heap.size + 2]? = some (.cells #[.int .i64 (k + 1 : Nat), .int .i64 (m.found 1 (k + 1) : Nat), .int .i64 (m.found 2 (k + 1) : Nat)] 50 (0, 0))) : SJ w b v n m mk (k + 1) W' := by
  have ho : ∀ {i : Nat} {o : Obj}, i ≠ w.heap.size + 2 → W.heap[i]? = some o → W'.heap[i]? = some o := fun {i o} hi hw => (hs.block i (blk_lt hw) hi).trans hw
  exact ⟨⟨ho (by omega) h.vi.boxm, ho (by omega) h.vi.boxn, Obj1.save h.vi.pm hs fun i hi e => by have := hlt i hi; omega⟩, ho (by omega) h.box, ho (by omega) h.res, hc,
    h.save.trim hs (fun j hj => .inr (by omega))⟩
/-- What Scrub holds, but for the counts. -/
structure SK (w : World) (b : Nat) (v : Value) (n : Int) (mk : Mem) (W : World) : Prop where
  vi : VI b (w.heap.size + 3) v n mk W
  box : W.heap[w.heap.size]? = some (.cells #[.pointer (some ⟨b, 0, none⟩)] 24 (0, 0))
  res : W.heap[w.heap.size + 1]? = some (.cells #[.int .i64 0, .int .i64 0, .int .i64 0] 50 (0, 0))
  save : Save (FT b v) w W
theorem SK.drewN {w : World} {b : Nat} {v : Value} {n : Int} {mk : Mem} {W : World} (h : SK w b v n mk W) (q : Nat) : SK w b v n mk (W.drewN q) := ⟨h.vi.drewN q, h.box, h.res, h.save.drewN q⟩
theorem SK.side {w : World} {b : Nat} {v : Value} {n : Int} {mk : Mem} {W : World} (hlt : ∀ k, FT b v k → k < w.heap.size) (h : SK w b v n mk W) (i : Nat) (u : Value) : SK w b v n mk (W.setCell ⟨w.heap.size + 2, i, none⟩ u) := by
  have ho : ∀ {j : Nat} {o : Obj}, j ≠ w.heap.size + 2 → W.heap[j]? = some o → (W.setCell ⟨w.heap.size + 2, i, none⟩ u).heap[j]? = some o := fun {j o} hj hw => (Below.heap_setCell _ _ _ _ hj).trans hw
  exact ⟨⟨ho (by omega) h.vi.boxm, ho (by omega) h.vi.boxn, h.vi.pm.aside (fun e => by have := hlt _ e; omega) i u⟩, ho (by omega) h.box, ho (by omega) h.res, h.save.setNew (by show _ ≤ w.heap.size + 2; omega) u⟩
/-- A word is corrected. -/
theorem SK.put {w : World} {b g c : Nat} {n : Int} {mk : Mem} {W : World} (hlt : ∀ k, FT b (.slice (some ⟨g, 0, none⟩) mk.code.length c) k → k < w.heap.size) (h : SK w b (.slice (some ⟨g, 0, none⟩) mk.code.length c) n mk W) (hne : g ≠ b) (a x : Nat) :
    SK w b (.slice (some ⟨g, 0, none⟩) mk.code.length c) n { mk with code := mk.code.set a x } (W.setCell ⟨g, a, none⟩ (.int .u64 (x : Int))) := by
  have hg := hlt g (.inr rfl)
  have ho : ∀ i, w.heap.size ≤ i → (W.setCell ⟨g, a, none⟩ (.int .u64 (x : Int))).heap[i]? = W.heap[i]? := fun i hi => Below.heap_setCell _ _ _ _ (by show i ≠ g; omega)
  have hp := PM.put h.vi.pm hne a x
  exact ⟨⟨(ho _ (by omega)).trans h.vi.boxm, (ho _ (by omega)).trans h.vi.boxn, hp.1⟩, (ho _ (by omega)).trans h.box, (ho _ (by omega)).trans h.res, h.save.trans hp.2⟩
theorem keeps_drewN (W : World) (q : Nat) : KeepsOthers W (W.drewN q) := ⟨Nat.le_refl _, fun _ _ h _ => h⟩
set_option maxHeartbeats 4000000 in
theorem pscrub_in {w : World} {b : Nat} {v : Value} {m : Mem} (h : PM w b v m) (hm : m.ok) (tb : E.Tab w) (n : Int) :
    CallsIn Fence.wide 3 Tryd.prog 25 #[.pointer (some ⟨b, 0, none⟩), .int .i64 n] w (ScrubPost PM m n b v w) := by
  have HH := Lib.hid h
  clear h
  refine callsIn_of_wp_marks Tryd.func25 rfl trivial ?_ rfl
  simp only [Tryd.ntmps25, List.size_toArray, List.length_cons, List.length_nil, Nat.reduceAdd, Nat.reduceSub, Array.replicate_succ, Array.replicate_zero, List.push_toArray, List.append_toArray, List.nil_append, List.cons_append]
  gi_wp2_with (refine ⟨trivial, ?_⟩; gi_at_call 43; refine (pvisits_in _ _ _ _).mono ?_; rintro e w' ⟨rfl, rfl⟩)
  obtain ⟨W0, hW0⟩ : ∃ W0, W0 = (((((w.alloc (Obj.cells #[Value.pointer (some { block := b, off := 0 })] 24)).alloc
                  (Obj.cells #[Value.int IntKind.i64 0, Value.int IntKind.i64 0, Value.int IntKind.i64 0] 50)).alloc
              (Obj.cells #[Value.int IntKind.i64 0, Value.int IntKind.i64 0, Value.int IntKind.i64 0] 50)).alloc
          (Obj.cells #[Value.pointer (some { block := b, off := 0 })] 24)).alloc
      (Obj.cells #[Value.int IntKind.i64 n] 3)) := ⟨_, rfl⟩
  rw [← hW0]
  have hsz : W0.heap.size = w.heap.size + 5 := by rw [hW0]; simp
  have hlt := HH.out.lt
  have hS0 : SJ w b v n m m 0 W0 := by
    have hB : Below w.heap.size w W0 := by rw [hW0]; exact (((((Below.refl w.heap.size w).alloc (Nat.le_refl _) _).alloc (by simp) _).alloc (by simp; omega) _).alloc (by simp; omega) _).alloc (by simp; omega) _
    clear hsz
    obtain ⟨A1, h1⟩ : ∃ A, A = w.alloc (Obj.cells #[Value.pointer (some { block := b, off := 0 })] 24) := ⟨_, rfl⟩
    rw [← h1] at hW0
    obtain ⟨A2, h2⟩ : ∃ A, A = A1.alloc (Obj.cells #[Value.int IntKind.i64 0, Value.int IntKind.i64 0, Value.int IntKind.i64 0] 50) := ⟨_, rfl⟩
    rw [← h2] at hW0
    obtain ⟨A3, h3⟩ : ∃ A, A = A2.alloc (Obj.cells #[Value.int IntKind.i64 0, Value.int IntKind.i64 0, Value.int IntKind.i64 0] 50) := ⟨_, rfl⟩
    rw [← h3] at hW0
    obtain ⟨A4, h4⟩ : ∃ A, A = A3.alloc (Obj.cells #[Value.pointer (some { block := b, off := 0 })] 24) := ⟨_, rfl⟩
    rw [← h4] at hW0
    have s1 : A1.heap.size = w.heap.size + 1 := by rw [h1]; simp
    have s2 : A2.heap.size = w.heap.size + 2 := by rw [h2]; simp [s1]
    have s3 : A3.heap.size = w.heap.size + 3 := by rw [h3]; simp [s2]
    have s4 : A4.heap.size = w.heap.size + 4 := by rw [h4]; simp [s3]
    refine ⟨⟨?_, get_alloc hW0 s4.symm, HH.out.keep hB⟩, ?_, ?_, ?_, Save.of_below _ hB⟩
    · rw [get_old hW0 (by omega)]; exact get_alloc h4 s3.symm
    · rw [get_old hW0 (by omega), get_old h4 (by omega), get_old h3 (by omega), get_old h2 (by omega)]; exact get_alloc h1 rfl
    · rw [get_old hW0 (by omega), get_old h4 (by omega), get_old h3 (by omega)]; exact get_alloc h2 s1.symm
    · rw [get_old hW0 (by omega), get_old h4 (by omega)]; exact get_alloc h3 s2.symm
  have HS0 := Lib.hid hS0
  have HSZ := Lib.hid hsz
  have HLT := Lib.hid hlt
  have HT0 := Lib.hid (HH.out.tab_off hm tb)
  have HTB := Lib.hid tb
  clear hS0 hW0 tb hlt
  refine wpIn_rangeFunc_st rfl (by omega) (gf := 54) (lb := #[.pointer (some ⟨w.heap.size + 3, 0, none⟩), .pointer (some ⟨w.heap.size + 4, 0, none⟩)]) rfl trivial (enters_of Tryd.func54 (by kernel_rfl) rfl)
    (fun k W => SJ w b v n m (m.visits k) k W) (fun k W => SJ w b v n m { m.visits k with next := ((m.visits k).next + 1) % m.code.length } k W) (fun k => #[.int .i64 ((m.visits k).next : Nat)]) (m.turns n)
    (SJ.own HLT.out _ (by rw [hsz]; omega)) (SJ.own HLT.out _ (by rw [hsz]; omega)) (fun _ => rfl) HS0.out
    (fun l D o W hl hD ho h0 hk hY => it_in 2 (by omega) l D o ho b (w.heap.size + 3) v n m hm (fun k W => SJ w b v n m (m.visits k) k W) (fun k W => SJ w b v n m { m.visits k with next := ((m.visits k).next + 1) % m.code.length } k W) (fun k W h => h.vi) (fun k W q h => h.drewN q) (fun k W q hk h => (h.drewN q).move HLT.out _) hY W h0 hk)
    (fun k => { tmps := #[.pointer (some ⟨b, 0, none⟩), .int .i64 n, .pointer (some ⟨w.heap.size, 0, none⟩), undef, .pointer (some ⟨w.heap.size + 1, 0, none⟩), .pointer (some ⟨w.heap.size + 2, 0, none⟩), .int .i64 ((m.visits k).next : Nat), undef, undef, .pointer (some ⟨b, 0, none⟩), .int .i64 n, .func (.func 54) #[] #[.pointer (some ⟨w.heap.size + 3, 0, none⟩), .pointer (some ⟨w.heap.size + 4, 0, none⟩)], .int .i64 ((m.visits k).next : Nat), undef, undef, undef, undef, undef, undef, undef, undef, undef, undef, undef, undef, undef, undef, undef, undef, undef, undef, undef, undef, undef, undef, undef, undef, undef, undef, undef, undef, undef, undef, undef, undef, undef, undef, undef, undef, undef], defers := [] })
    ?assign ?body ?done
  case assign =>
    intro l k W K hK
    gi_wp2
    exact hK
  case body =>
    intro l k W hk hyk
    obtain ⟨hvi, hbox, hres, hcnt, hsave⟩ := hyk
    have hlen := visits_len m k
    have hokk := visits_ok hm k
    obtain ⟨mk, hmk⟩ : ∃ mk, m.visits k = mk := ⟨_, rfl⟩
    have hvs : m.visits (k + 1) = mk.visit := by rw [Mem.visits, hmk]
    have hkm : k < 4096 := by have := turns_le m n; have := hm.most; omega
    have hF1 : m.found 1 (k + 1) = m.found 1 k + (if (E.dec (mk.at mk.next)).2 = 1 then 1 else 0) := by rw [Mem.found, hmk]
    have hF2 : m.found 2 (k + 1) = m.found 2 k + (if (E.dec (mk.at mk.next)).2 = 2 then 1 else 0) := by rw [Mem.found, hmk]
    have hl1 := found_le m 1 k
    have hl2 := found_le m 2 k
    rw [hmk] at hvi hlen hokk ⊢
    rw [← hlen] at hvi
    obtain ⟨g, c, rfl, hc1, hc2, hgb⟩ := (show PM W b v { mk with next := (mk.next + 1) % mk.code.length } from hvi.pm).shape ⟨hokk.pos, hokk.most, Nat.mod_lt _ hokk.pos, hokk.small, hokk.left⟩
    have HS : Hid (SJ w b (.slice (some ⟨g, 0, none⟩) mk.code.length c) n m { mk with next := (mk.next + 1) % mk.code.length } k W) := Lib.hid ⟨hvi, hbox, hres, hcnt, hsave⟩
    obtain ⟨f1, hf1⟩ : ∃ f1, m.found 1 k = f1 := ⟨_, rfl⟩
    obtain ⟨f2, hf2⟩ : ∃ f2, m.found 2 k = f2 := ⟨_, rfl⟩
    rw [hf1] at hcnt hF1 hl1
    rw [hf2] at hcnt hF2 hl2
    have hnx := hokk.next
    have e1 := blk_cell hbox 0
    have e2 := blk_cell hcnt 0
    have e3 := blk_frozen hcnt 0
    have e4 := blk_cell hvi.pm.blk 0
    have e5 := PM.code hvi.pm hnx
    have e6 := PM.soft hvi.pm mk.next
    simp only [pcs, List.getElem?_toArray, List.getElem?_cons_zero] at e1 e2 e4
    have hat : Mem.at { mk with next := (mk.next + 1) % mk.code.length } mk.next = mk.at mk.next := rfl
    rw [hat] at e5
    have hsm := hokk.small mk.next
    have hki : ¬ (mk.code.length : Int) ≤ (mk.next : Int) := by omega
    have hki2 : (mk.next : Int) < (mk.code.length : Int) := by omega
    have hk0 : ¬ (mk.next : Int) < 0 := by omega
    have hk1 : (0 : Int) ≤ (mk.next : Int) := by omega
    have hk9 : (k : Int) < 4096 := by omega
    have hbN : b < w.heap.size := HLT.out b (.inl rfl)
    have hgN : g < w.heap.size := HLT.out g (.inr rfl)
    have n1 : ¬ b = w.heap.size + 2 := by omega
    have n2 : ¬ g = w.heap.size + 2 := by omega
    have n3 : ¬ w.heap.size = w.heap.size + 2 := by omega
    have hv1 := fun h => visit_one (m := mk) h
    have hv2 := fun h => visit_other (m := mk) h
    have hdl := E.dec_lt (mk.at mk.next)
    have hdle := (E.dec_le (mk.at mk.next)).1
    have HD := Lib.hid (fun W' (tb : E.Tab W') => E.pdec_any (mk.at mk.next) (by omega) W' tb)
    have HF1 := Lib.hid hF1
    have HF2 := Lib.hid hF2
    have HVS := Lib.hid hvs
    have HKN := Lib.hid hokk
    have HCN := Lib.hid hcnt
    clear hvi hbox hres hcnt hsave hF1 hF2 hvs hlen hokk hmk hat hsz hf1 hf2
    generalize hde : E.dec (mk.at mk.next) = d at *
    obtain ⟨y, st⟩ := d
    dsimp only at *
    have HD1 := Lib.hid (HD.out (W.setCell ⟨w.heap.size + 2, 0, none⟩ (.int .i64 ((k : Int) + 1))) (tab_save HTB.out (HS.out.save.setNew (p := ⟨w.heap.size + 2, 0, none⟩) (by show _ ≤ w.heap.size + 2; omega) _) HT0.out))
    clear HD
    have HSS := Lib.hid (fun (q : Nat) (i : Nat) (u : Value) => ((Save.refl (fun i => i = w.heap.size + 2) W).setCell (p := ⟨w.heap.size + 2, 0, none⟩) rfl (.int .i64 ((k : Int) + 1))).setCell (p := ⟨w.heap.size + 2, i, none⟩) rfl u)
    by_cases hs1 : st = 1
    · have hs1i : (((st : Nat) : Int) == 1) = true := by simp [hs1]
      have hs2i : (((st : Nat) : Int) == 2) = false := by simp [hs1]
      have HV := Lib.hid (hv1 hs1)
      rw [if_pos hs1] at HF1
      rw [if_neg (by omega)] at HF2
      have e7 := blk_cell HCN.out 1
      have e8 := blk_frozen HCN.out 1
      simp only [List.getElem?_toArray, List.getElem?_cons_succ, List.getElem?_cons_zero] at e7
      have hf1 : (f1 : Int) < 4096 := by omega
      obtain ⟨z, hz⟩ : ∃ z, E.enc y = z := ⟨_, rfl⟩
      have HE := Lib.hid (fun W' (tb : E.Tab W') => E.penc_any y hdl W' tb)
      rw [hz] at HE HV
      clear hs1 hv1 hv2 hde hz hdl
      gi_wp2_with (refine ⟨trivial, ?_⟩; gi_at_call 44; refine (CallsIn.inRound l (callsIn_wide.2 HD1.out)).mono ?_; rintro e w' ⟨rfl, rfl⟩)
      obtain ⟨X, hX⟩ : ∃ X, X = W.setCell ⟨w.heap.size + 2, 0, none⟩ (.int .i64 ((k : Int) + 1)) := ⟨_, rfl⟩
      rw [← hX]
      have hxk : SK w b (.slice (some ⟨g, 0, none⟩) mk.code.length c) n { mk with next := (mk.next + 1) % mk.code.length } X := by rw [hX]; exact (SK.mk HS.out.vi HS.out.box HS.out.res HS.out.save).side HLT.out 0 _
      have hxc : X.heap[w.heap.size + 2]? = some (.cells #[.int .i64 ((k : Int) + 1), .int .i64 (f1 : Nat), .int .i64 (f2 : Nat)] 50 (0, 0)) := by rw [hX]; exact blk_set HCN.out 0 _
      have hkx : KeepsOthers W X := by rw [hX]; exact KeepsOthers.setCell _ _ _
      have x1 := blk_cell hxk.box 0
      have x4 := blk_cell hxk.vi.pm.blk 0
      have x6 := PM.soft (m := { mk with next := (mk.next + 1) % mk.code.length }) hxk.vi.pm mk.next
      have x5 := PM.code (m := { mk with next := (mk.next + 1) % mk.code.length }) hxk.vi.pm hnx
      have x2 := blk_cell hxc 1
      have x3 := blk_frozen hxc 1
      simp only [pcs, List.getElem?_toArray, List.getElem?_cons_succ, List.getElem?_cons_zero] at x1 x4 x2
      have HXK := Lib.hid hxk
      have HXC := Lib.hid hxc
      have HKX := Lib.hid hkx
      have HE1 := Lib.hid (HE.out X.drew (tab_save HTB.out hxk.save.drew HT0.out))
      clear hX hxk hxc hkx HE e1 e2 e3 e4 e5 e6 e7 e8
      refine wpIn_region_held_round (S := fun w' => w'.cell? ⟨w.heap.size, 0, none⟩ = some (.pointer (some ⟨b, 0, none⟩)) ∧ w'.cell? ⟨b, 0, none⟩ = some (.slice (some ⟨g, 0, none⟩) mk.code.length c)) (fun ⟨_, _, h⟩ => h) rfl (by kernel_rfl) ⟨x1, x4⟩ (fun hHeld => ?_)
      refine wpAnyH_take (i := 0) (oi := { dst := some 31, op := _, type := _, pos := _, after := _, guard := _ }) (v := ?_) rfl (by kernel_rfl) (by kernel_rfl) (by kernel_rfl) (fun _ _ _ h => h) (Or.inl ⟨by rfl, ?_⟩) (by assumption) ?_
      rotate_left
      · (intro w hSw; (try dsimp only at hSw); go_simp)
        first | done | with_reducible rfl
      try simp only [Act.put, List.setIfInBounds_toArray, List.set_cons_zero, List.set_cons_succ]
      refine wpAnyH_take (i := 1) (oi := { dst := some 32, op := _, type := _, pos := _, after := _, guard := _ }) (v := ?_) rfl (by kernel_rfl) (by kernel_rfl) (by kernel_rfl) (fun _ _ _ h => h) (Or.inl ⟨by rfl, ?_⟩) (by assumption) ?_
      rotate_left
      · (intro w hSw; (try dsimp only at hSw); go_simp)
        first | done | with_reducible rfl
      try simp only [Act.put, List.setIfInBounds_toArray, List.set_cons_zero, List.set_cons_succ]
      refine wpAnyH_take (i := 2) (oi := { dst := some 33, op := _, type := _, pos := _, after := _, guard := _ }) (v := ?_) rfl (by kernel_rfl) (by kernel_rfl) (by kernel_rfl) (fun _ _ _ h => h) (Or.inl ⟨by rfl, ?_⟩) (by assumption) ?_
      rotate_left
      · (intro w hSw; (try dsimp only at hSw); go_simp)
        first | done | with_reducible rfl
      try simp only [Act.put, List.setIfInBounds_toArray, List.set_cons_zero, List.set_cons_succ]
      refine wpAnyH_take (i := 3) (oi := { dst := some 34, op := _, type := _, pos := _, after := _, guard := _ }) (v := ?_) rfl (by kernel_rfl) (by kernel_rfl) (by kernel_rfl) (fun _ _ _ h => h) (Or.inl ⟨by rfl, ?_⟩) (by assumption) ?_
      rotate_left
      · (intro w hSw; (try dsimp only at hSw); go_simp)
        first | done | with_reducible rfl
      try simp only [Act.put, List.setIfInBounds_toArray, List.set_cons_zero, List.set_cons_succ]
      refine wpAnyH_take (i := 4) (oi := { dst := some 35, op := _, type := _, pos := _, after := _, guard := _ }) (v := ?_) rfl (by kernel_rfl) (by kernel_rfl) (by kernel_rfl) (fun _ _ _ h => h) (Or.inl ⟨by rfl, ?_⟩) (by assumption) ?_
      rotate_left
      · (intro w hSw; (try dsimp only at hSw); go_simp)
        first | done | with_reducible rfl
      try simp only [Act.put, List.setIfInBounds_toArray, List.set_cons_zero, List.set_cons_succ]
      refine wpAnyH_take (i := 5) (oi := { dst := some 36, op := _, type := _, pos := _, after := _, guard := _ }) (v := ?_) rfl (by kernel_rfl) (by kernel_rfl) (by kernel_rfl) (fun _ _ _ h => h) (Or.inl ⟨by rfl, ?_⟩) (by assumption) ?_
      rotate_left
      · (intro w hSw; (try dsimp only at hSw); go_simp)
        first | done | with_reducible rfl
      try simp only [Act.put, List.setIfInBounds_toArray, List.set_cons_zero, List.set_cons_succ]
      refine wpAnyH_ready (rs := [6]) (by kernel_rfl) (by simp) ?_
      refine AllReadyH.cons (o := { dst := some 37, op := _, type := _, pos := _, after := _, guard := _ }) rfl (fun K hK => ?_) AllReadyH.nil
      go_simp
      go_at_call 45; refine HE1.out.mono ?_
      rintro r w7 ⟨rfl, q, rfl⟩
      go_wp2_with fail
      refine hK.out _ _ ⟨x1, x4⟩ (fun hH2 => ?_)
      clear hK K hHeld
      rename _ => hHeld
      try simp only [Act.put, List.setIfInBounds_toArray, List.set_cons_zero, List.set_cons_succ]
      refine wpAnyH_take (i := 7) (oi := { dst := some 38, op := _, type := _, pos := _, after := _, guard := _ }) (v := ?_) rfl (by kernel_rfl) (by kernel_rfl) (by kernel_rfl) (fun _ _ _ h => h) (Or.inl ⟨by rfl, ?_⟩) (by assumption) ?_
      rotate_left
      · (intro w hSw; (try dsimp only at hSw); go_simp)
        first | done | with_reducible rfl
      try simp only [Act.put, List.setIfInBounds_toArray, List.set_cons_zero, List.set_cons_succ]
      refine wpAnyH_ready (rs := [8]) (by kernel_rfl) (by simp) ?_
      refine AllReadyH.cons (o := { dst := none, op := _, type := _, pos := _, after := _, guard := _ }) rfl (fun K hK => ?_) AllReadyH.nil
      go_simp
      refine hK.out _ _ ⟨?_, ?_⟩ (fun hH2 => ?_)
      · exact (World.cell?_setCell_other _ _ _ _ (fun e => by have := congrArg Addr.block e; simp at this; omega)).trans x1
      · exact (World.cell?_setCell_other _ _ _ _ (fun e => by have := congrArg Addr.block e; simp at this; omega)).trans x4
      clear hK K hHeld
      rename _ => hHeld
      try simp only [Act.put, List.setIfInBounds_toArray, List.set_cons_zero, List.set_cons_succ]
      refine wpAnyH_done (by kernel_rfl) ?_ _
      obtain ⟨Z, hZ⟩ : ∃ Z, Z = (X.drewN (1 + q)).setCell ⟨g, mk.next, none⟩ (.int .u64 (z : Nat)) := ⟨_, rfl⟩
      rw [← hZ]
      have hzk : SK w b (.slice (some ⟨g, 0, none⟩) mk.code.length c) n mk.visit Z := by rw [hZ, HV.out]; exact SK.put (mk := { mk with next := (mk.next + 1) % mk.code.length }) HLT.out (HXK.out.drewN (1 + q)) hgb mk.next z
      have hzc : Z.heap[w.heap.size + 2]? = some (.cells #[.int .i64 ((k : Int) + 1), .int .i64 (f1 : Nat), .int .i64 (f2 : Nat)] 50 (0, 0)) := by rw [hZ]; exact (Below.heap_setCell _ _ _ _ (by show _ ≠ g; omega)).trans HXC.out
      have hkz : KeepsOthers W Z := by rw [hZ]; exact (HKX.out.trans (keeps_drewN X (1 + q))).trans (KeepsOthers.setCell _ _ _)
      have z2 := blk_cell hzc 1
      have z3 := blk_frozen hzc 1
      simp only [List.getElem?_toArray, List.getElem?_cons_succ, List.getElem?_cons_zero] at z2
      have HZK := Lib.hid hzk
      have HZC := Lib.hid hzc
      have HKZ := Lib.hid hkz
      clear hZ hzk hzc hkz x1 x2 x3 x4 x5 x6 hHeld
      gi_wp2
      have hs := HZK.out.side HLT.out 1 (.int .i64 ((f1 : Int) + 1))
      refine ⟨(HKZ.out.trans (KeepsOthers.setCell _ _ _)).from _, ?_⟩
      rw [HVS.out]
      exact ⟨hs.vi, hs.box, hs.res, by rw [HF1.out, HF2.out]; exact blk_set HZC.out 1 _, hs.save⟩
    · have hs1i : (((st : Nat) : Int) == 1) = false := by simp; omega
      have HV := Lib.hid (hv2 hs1)
      rw [if_neg hs1] at HF1
      by_cases hs2 : st = 2
      · have hs2i : (((st : Nat) : Int) == 2) = true := by simp [hs2]
        rw [if_pos hs2] at HF2
        have e7 := blk_cell HCN.out 2
        have e8 := blk_frozen HCN.out 2
        simp only [List.getElem?_toArray, List.getElem?_cons_succ, List.getElem?_cons_zero] at e7
        have hf2 : (f2 : Int) < 4096 := by omega
        clear hs1 hs2 hv1 hv2 hde
        gi_wp2_with (refine ⟨trivial, ?_⟩; gi_at_call 44; refine (CallsIn.inRound l (callsIn_wide.2 HD1.out)).mono ?_; rintro e w' ⟨rfl, rfl⟩)
        refine ⟨((KeepsOthers.setCell _ _ _).trans (KeepsOthers.setCell _ _ _)).from _, ?_⟩
        rw [HVS.out, HV.out]
        exact HS.out.tally HLT.out (HSS.out 0 2 _) (by rw [HF1.out, HF2.out]; exact blk_set (blk_set HCN.out 0 _) 2 _)
      · have hs2i : (((st : Nat) : Int) == 2) = false := by simp; omega
        rw [if_neg hs2] at HF2
        clear hs1 hs2 hv1 hv2 hde
        gi_wp2_with (refine ⟨trivial, ?_⟩; gi_at_call 44; refine (CallsIn.inRound l (callsIn_wide.2 HD1.out)).mono ?_; rintro e w' ⟨rfl, rfl⟩)
        refine ⟨(KeepsOthers.setCell _ _ _).from _, ?_⟩
        rw [HVS.out, HV.out]
        exact HS.out.tally HLT.out ((Save.refl (fun i => i = w.heap.size + 2) W).setCell (p := ⟨w.heap.size + 2, 0, none⟩) rfl _) (by rw [HF1.out, HF2.out]; exact blk_set HCN.out 0 _)
  case done =>
    intro D W hD hJ hK
    have hbN := HLT.out b (.inl rfl)
    have d20 := blk_cell (b := w.heap.size + 1 + 1) hJ.cnt 0
    have d21 := blk_cell (b := w.heap.size + 1 + 1) hJ.cnt 1
    have d22 := blk_cell (b := w.heap.size + 1 + 1) hJ.cnt 2
    have d10 := blk_cell hJ.res 0
    have d11 := blk_cell hJ.res 1
    have d12 := blk_cell hJ.res 2
    have f10 := blk_frozen hJ.res 0
    have f11 := blk_frozen hJ.res 1
    have f12 := blk_frozen hJ.res 2
    simp only [List.getElem?_toArray, List.getElem?_cons_succ, List.getElem?_cons_zero] at d20 d21 d22 d10 d11 d12
    have HJ := Lib.hid hJ
    have HKD := Lib.hid hK
    clear hJ
    gi_wp2
    obtain ⟨Y, hY⟩ : ∃ Y, Y = ((W.setCell ⟨w.heap.size + 1, 0, none⟩ (.int .i64 (m.turns n : Nat))).setCell ⟨w.heap.size + 1, 1, none⟩ (.int .i64 (m.found 1 (m.turns n) : Nat))).setCell ⟨w.heap.size + 1, 2, none⟩ (.int .i64 (m.found 2 (m.turns n) : Nat)) := ⟨_, rfl⟩
    rw [← hY]
    have hnf : ¬ FT b v (w.heap.size + 1) := fun e => by have := HLT.out _ e; omega
    have hpm : PM Y b v (m.scrub n) := by rw [hY]; exact ((HJ.out.vi.pm.aside hnf 0 _).aside hnf 1 _).aside hnf 2 _
    have hsv : Save (FT b v) w Y := by rw [hY]; exact ((HJ.out.save.setNew (p := ⟨w.heap.size + 1, 0, none⟩) (by show _ ≤ w.heap.size + 1; omega) _).setNew (p := ⟨w.heap.size + 1, 1, none⟩) (by show _ ≤ w.heap.size + 1; omega) _).setNew (p := ⟨w.heap.size + 1, 2, none⟩) (by show _ ≤ w.heap.size + 1; omega) _
    have hres : Y.heap[w.heap.size + 1]? = some (.cells #[.int .i64 (m.turns n : Nat), .int .i64 (m.found 1 (m.turns n) : Nat), .int .i64 (m.found 2 (m.turns n) : Nat)] 50 (0, 0)) := by rw [hY]; exact blk_set (blk_set (blk_set HJ.out.res 0 _) 1 _) 2 _
    have hdf : Y.heap[D]? = some (.deferred (some [])) := by
      have hne : D ≠ w.heap.size + 1 := by omega
      rw [hY]
      exact (Below.heap_setCell _ _ _ _ hne).trans ((Below.heap_setCell _ _ _ _ hne).trans ((Below.heap_setCell _ _ _ _ hne).trans HKD.out))
    have HF := Lib.hid (And.intro hpm hsv)
    refine ⟨by simp, .inl ⟨_, _, rfl, run_takeDeferred hdf, ?_⟩⟩
    refine ⟨_, results_row1 (ty := 50) rfl _ _ (w.heap.size + 1) 50 #[.int .i64 (m.turns n : Nat), .int .i64 (m.found 1 (m.turns n) : Nat), .int .i64 (m.found 2 (m.turns n) : Nat)] (0, 0) _ rfl ((World.putObj_heap_other (by omega)).trans hres) Tryd.underlying50 rfl (by kernel_rfl), rfl, ?_, ?_⟩
    · exact Obj1.as HF.out.1 fun k hk => World.putObj_heap_other (by have := HLT.out k hk; omega)
    · have h1 := HF.out.2
      exact ⟨h1.os, h1.tape, h1.output, by simpa [World.putObj] using h1.size, fun k hk hf => (World.putObj_heap_other (by omega)).trans (h1.block k hk hf)⟩
theorem pscrub_any {w : World} {b : Nat} {v : Value} {m : Mem} (h : PM w b v m) (hm : m.ok) (tb : E.Tab w) (n : Int) :
    Calls Tryd.prog 25 #[.pointer (some ⟨b, 0, none⟩), .int .i64 n] w (ScrubPost PM m n b v w) := callsIn_wide.1 (pscrub_in h hm tb n)
end M
end Go.Proofs.YtnoohhpajoaaoaaDoor
