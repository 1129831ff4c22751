/-
  What the laws of package journal share: a journal through calls with the power on; the examples.
-/
import Derived.Test.YtnoohhpajoaaoaaDoorJLaw
namespace Go.Proofs.YtnoohhpajoaaoaaDoor
open Go.RowKit
namespace J
open H R M
set_option linter.unusedVariables false
set_option maxRecDepth 100000
/-- A journal that was made since w0, no word with more than one flipped bit, at most c writes so far. -/
structure JG (w0 w : World) (bj bm : Nat) (vm : Value) (m : Mem) (s : JS) (FR : Nat → Prop) (ws : Nat → Nat) (n c : Nat) : Prop where
  jj : JJ w0.heap.size w bj bm vm m s FR ws n
  near : Near m ws
  below : Below w0.heap.size w0 w
  cnt : m.count ≤ c
/-- The blocks that a journal may write. -/
def Mut (bj bm : Nat) (vm : Value) (FR : Nat → Prop) (k : Nat) : Prop := k = bj ∨ FT bm vm k ∨ FR k
theorem JG.mut_lt {w0 w : World} {bj bm : Nat} {vm : Value} {m : Mem} {s : JS} {FR : Nat → Prop} {ws : Nat → Nat} {n c : Nat} (h : JG w0 w bj bm vm m s FR ws n c) : ∀ k, Mut bj bm vm FR k → k < w.heap.size := fun k hk => by
  rcases hk with rfl | hk | hk
  · exact h.jj.pj.lt.1
  · exact h.jj.pj.pm.lt k hk
  · exact h.jj.pj.lt.2 k hk
theorem JG.mut_ge {w0 w : World} {bj bm : Nat} {vm : Value} {m : Mem} {s : JS} {FR : Nat → Prop} {ws : Nat → Nat} {n c : Nat} (h : JG w0 w bj bm vm m s FR ws n c) : ∀ k, Mut bj bm vm FR k → w0.heap.size ≤ k := fun k hk => by
  rcases hk with rfl | hk | hk
  · exact h.jj.bj
  · exact h.jj.bm k hk
  · exact h.jj.fr k hk
theorem JG.keep {w0 w w' : World} {bj bm : Nat} {vm : Value} {m : Mem} {s : JS} {FR : Nat → Prop} {ws : Nat → Nat} {n c : Nat} (h : JG w0 w bj bm vm m s FR ws n c) (hb : Below w.heap.size w w') : JG w0 w' bj bm vm m s FR ws n c :=
  ⟨{ h.jj with pj := h.jj.pj.save (F := fun _ => False) (Save.of_below _ hb) (fun _ e => e.elim) }, h.near, h.below.trans (hb.mono h.below.size), h.cnt⟩
theorem JG.drewN {w0 w : World} {bj bm : Nat} {vm : Value} {m : Mem} {s : JS} {FR : Nat → Prop} {ws : Nat → Nat} {n c : Nat} (h : JG w0 w bj bm vm m s FR ws n c) (q : Nat) : JG w0 (w.drewN q) bj bm vm m s FR ws n c := h.keep (below_drewN (Below.refl _ _) q)
theorem JG.tab {w0 w : World} {bj bm : Nat} {vm : Value} {m : Mem} {s : JS} {FR : Nat → Prop} {ws : Nat → Nat} {n c : Nat} (h : JG w0 w bj bm vm m s FR ws n c) (tb : E.Tab w0) : E.Tab w := tb.below tb.pos h.below
/-- The memory has been changed by itself, its words read as they did. -/
theorem JG.mem {w0 w w' : World} {bj bm : Nat} {vm : Value} {m m' : Mem} {s : JS} {FR : Nat → Prop} {ws : Nat → Nat} {n c : Nat} (h : JG w0 w bj bm vm m s FR ws n c) (hp : PM w' bm vm m') (hs : Save (FT bm vm) w w') (hok : m'.ok) (hl : m'.code.length = m.code.length) (hn : Near m' ws) (hc : m'.count = m.count) : JG w0 w' bj bm vm m' s FR ws n c :=
  ⟨⟨h.jj.pj.mem hp hs hl, hok, by rw [hl, h.jj.len], h.jj.lay, h.jj.bj, h.jj.bm, h.jj.fr⟩, hn, h.below.trans (hs.below h.below.size h.jj.bm), by rw [hc]; exact h.cnt⟩
/-- What storing leaves, the power on. -/
def GPost (w0 w : World) (bj bm : Nat) (vm : Value) (FR : Nat → Prop) (n c : Nat) (old rows : List (List Nat)) (r : Ending) (w' : World) : Prop :=
  ∃ m' s' FR' ws', r = .returned (.int .i64 (errL n rows)) ∧ JG w0 w' bj bm vm m' s' FR' ws' n (c + 20000) ∧ s'.rows = (if errL n rows = 0 then rows else old) ∧ m'.off = false ∧ m'.left = 0 ∧ Save (Mut bj bm vm FR) w w' ∧ ∀ k, FR' k → FR k ∨ w.heap.size ≤ k
theorem StorePost.good {w0 w w' : World} {bj bm : Nat} {vm : Value} {m : Mem} {s : JS} {FR : Nat → Prop} {ws : Nat → Nat} {n c : Nat} {rows : List (List Nat)} {r : Ending} (h : JG w0 w bj bm vm m s FR ws n c) (ho : m.off = false) (hl : m.left = 0) (hp : StorePost w bj bm vm m s FR ws rows r w') : GPost w0 w bj bm vm FR n c s.rows rows r w' := by
  obtain ⟨e, m3, s3, FR3, ws3, rfl, hpj, hs, hfr, hwr, hlay, hok, hA, hBB, hC, hD⟩ := hp
  rw [h.jj.len] at hlay hA hBB hC
  obtain ⟨ho3, hl3⟩ := hD ho hl
  have hg : JG w0 w' bj bm vm m3 s3 FR3 ws3 n (c + 20000) := ⟨⟨hpj, hok, by rw [hwr.len, h.jj.len], hlay, h.jj.bj, h.jj.bm, fun k hk => (hfr k hk).elim (h.jj.fr k) fun h2 => Nat.le_trans h.below.size h2⟩, hwr.near h.near, h.below.trans (hs.below h.below.size fun k hk => by
    rcases hk with rfl | hk | hk
    · exact h.jj.bj
    · exact h.jj.bm k hk
    · exact h.jj.fr k hk), by have := hwr.count; have := h.cnt; omega⟩
  by_cases he : errL n rows = 0
  · rcases hC he ho with ⟨rfl, hr⟩ | ⟨_, _, hof⟩
    · exact ⟨m3, s3, FR3, ws3, by rw [he], hg, by rw [if_pos he]; exact hr, ho3, hl3, hs, hfr⟩
    · rw [ho3] at hof; cases hof
  · obtain ⟨rfl, hr, _, _⟩ := hA he
    exact ⟨m3, s3, FR3, ws3, rfl, hg, by rw [if_neg he]; exact hr, ho3, hl3, hs, hfr⟩
theorem gappend {w0 w : World} {bj bm : Nat} {vm v : Value} {m : Mem} {s : JS} {FR : Nat → Prop} {ws : Nat → Nat} {n c : Nat} {xs : List Nat} {G : Nat → Prop} (h : JG w0 w bj bm vm m s FR ws n c) (tb : E.Tab w0) (h16 : 16 ≤ n) (hc : c ≤ 900000) (ho : m.off = false) (hl : m.left = 0)
    (hr : Rd w G v xs) (hG : ∀ k, G k → ¬ Mut bj bm vm FR k) (hu : xs.length ≤ 1000) (hx : ∀ x ∈ xs, x < 4294967296) :
    Calls Tryd.prog 17 #[.pointer (some ⟨bj, 0, none⟩), v] w (GPost w0 w bj bm vm FR n c s.rows (s.rows ++ [xs])) :=
  (pappend_any h.jj.pj h.jj.ok (h.tab tb) (by have := h.cnt; omega) (by rw [h.jj.len]; exact h16) h.near.weak (by rw [h.jj.len]; exact h.jj.lay) hr (fun k hk => ⟨fun e => hG k hk (.inl e), fun e => hG k hk (.inr (.inl e)), fun e => hG k hk (.inr (.inr e))⟩) hu hx).mono fun _ _ hp => hp.good h ho hl
theorem greplace {w0 w : World} {bj bm : Nat} {vm v : Value} {m : Mem} {s : JS} {FR : Nat → Prop} {ws : Nat → Nat} {n c : Nat} {rows : List (List Nat)} {G : Nat → Prop} (h : JG w0 w bj bm vm m s FR ws n c) (tb : E.Tab w0) (h16 : 16 ≤ n) (hc : c ≤ 900000) (ho : m.off = false) (hl : m.left = 0)
    (hr : RR w G v rows) (hG : ∀ k, G k → ¬ Mut bj bm vm FR k) (hu : usedL rows ≤ 1000) (hx : ∀ r ∈ rows, ∀ x ∈ r, x < 4294967296) :
    Calls Tryd.prog 20 #[.pointer (some ⟨bj, 0, none⟩), v] w (GPost w0 w bj bm vm FR n c s.rows rows) :=
  (preplace_any h.jj.pj h.jj.ok (h.tab tb) (by have := h.cnt; omega) (by rw [h.jj.len]; exact h16) h.near.weak (by rw [h.jj.len]; exact h.jj.lay) hr (fun k hk => ⟨fun e => hG k hk (.inl e), fun e => hG k hk (.inr (.inl e))⟩) hu hx).mono fun _ _ hp => hp.good h ho hl
theorem gfree {w0 w : World} {bj bm : Nat} {vm : Value} {m : Mem} {s : JS} {FR : Nat → Prop} {ws : Nat → Nat} {n c : Nat} (h : JG w0 w bj bm vm m s FR ws n c) (hn : n ≤ 1000) :
    Calls Tryd.prog 28 #[.pointer (some ⟨bj, 0, none⟩)] w fun r w' => r = .returned (.int .i64 (freeL n s.rows)) ∧ ∃ q, w' = w.drewN q := by
  have := pfree_any h.jj.pj h.jj.ok (by have := errL_small hn h.jj.lay.ok; omega)
  rw [h.jj.len] at this
  exact this
theorem gopens {w0 w : World} {bj bm : Nat} {vm v : Value} {m : Mem} {s : JS} {FR : Nat → Prop} {ws : Nat → Nat} {n c : Nat} {G : Nat → Prop} {want : List (List Nat)} (h : JG w0 w bj bm vm m s FR ws n c) (tb : E.Tab w0) (h16 : 16 ≤ n) (hn : n ≤ 1000) (hr : RR w G v want) :
    Calls Tryd.prog 30 #[.pointer (some ⟨bm, 0, none⟩), v] w fun r w' => r = .returned (.bool (decide (s.rows = want))) ∧ Below w.heap.size w w' :=
  opens_any h.jj.pj.pm h.jj.ok (h.tab tb) (by rw [h.jj.len]; exact h16) (by rw [h.jj.len]; exact hn) h.near (by rw [h.jj.len]; exact h.jj.lay) hr
/-- A memory and a journal on it. -/
theorem FreshPost.good {w0 w w' : World} {n : Nat} {rows : List (List Nat)} {r : Ending} (hb : Below w0.heap.size w0 w) (h : FreshPost n rows w r w') : ∃ bj bm vm m s FR ws, r = .returned (.tuple #[.pointer (some ⟨bm, 0, none⟩), .pointer (some ⟨bj, 0, none⟩)]) ∧ JG w0 w' bj bm vm m s FR ws n 40000 ∧
    (∀ a, a < n → Clean m ws a) ∧ s.rows = rows ∧ m.off = false ∧ m.left = 0 ∧ (∀ k, Mut bj bm vm FR k → w.heap.size ≤ k) ∧ Below w.heap.size w w' := by
  obtain ⟨bj, bm, vm, m, s, FR, ws, rfl, hjj, hB, hn, hc, hr, ho, hl, hct⟩ := h
  exact ⟨bj, bm, vm, m, s, FR, ws, rfl, ⟨⟨hjj.pj, hjj.ok, hjj.len, hjj.lay, Nat.le_trans hb.size hjj.bj, fun k hk => Nat.le_trans hb.size (hjj.bm k hk), fun k hk => Nat.le_trans hb.size (hjj.fr k hk)⟩, hn, hb.trans (hB.mono hb.size), hct⟩, hc, hr, ho, hl, fun k hk => by
    rcases hk with rfl | hk | hk
    · exact hjj.bj
    · exact hjj.bm k hk
    · exact hjj.fr k hk, hB⟩
theorem rd_two (w : World) (x y : Nat) {G : Nat → Prop} (hG : G w.heap.size) : Rd (w.alloc (.cells #[.int .u32 (x : Int), .int .u32 (y : Int)] 30)) G (.slice (some ⟨w.heap.size, 0, none⟩) 2 2) [x, y] := by
  refine ⟨some ⟨w.heap.size, 0, none⟩, 2, rfl, (fun e => by cases e), Nat.le_refl _, fun j u hu => ⟨_, rfl, hG, ?_⟩⟩
  have hb := heap_alloc_new w (.cells #[.int .u32 (x : Int), .int .u32 (y : Int)] 30)
  have e : (⟨w.heap.size, 0, none⟩ : Addr).add j = ⟨w.heap.size, j, none⟩ := by unfold Addr.add; split <;> simp_all
  rw [e]
  refine ⟨?_, blk_frozen hb j⟩
  rw [blk_cell hb j, ← hu]
  simp [w32]
/-- Format of a memory that was just made. -/
theorem FormatPost.good {w0 w w' : World} {bm n : Nat} {vm : Value} {r : Ending} (hm : Made PM w0 w bm vm (Mem.new n)) (h16 : 16 ≤ n) (hp : FormatPost w bm vm (Mem.new n) (fun _ => 0) r w') :
    ∃ bj m s FR ws, r = .returned (.tuple #[.pointer (some ⟨bj, 0, none⟩), .int .i64 0]) ∧ JG w0 w' bj bm vm m s FR ws n 20000 ∧ s.rows = [] ∧ m.off = false ∧ m.left = 0 ∧ (∀ a, a < n → Clean m ws a) := by
  obtain ⟨p, e, m2, rfl, hpm2, hok2, hs2, hl2, hc2, hA, hBB, hC⟩ := hp
  have hlen : (Mem.new n).code.length = n := List.length_replicate
  rw [hlen] at hl2 hA hBB hC
  obtain ⟨rfl, ho2, hle2, bj, s, FR, ws, rfl, hpj, hbj, hFR, hrows, hwr, hlay⟩ := hC h16 rfl rfl
  have hnr := new_near (n := n) (by omega)
  exact ⟨bj, m2, s, FR, ws, rfl, ⟨⟨hpj, hok2, hl2, hlay, Nat.le_trans hm.2.2.size hbj, hm.2.1, fun k hk => Nat.le_trans hm.2.2.size (hFR k hk)⟩, hwr.near hnr.1, hm.2.2.trans (hs2.below hm.2.2.size hm.2.1), by simpa [Mem.new] using hc2⟩, hrows, ho2, hle2, fun a ha => hwr.clean (by rw [hlen]; exact ha) (hnr.2 a ha)⟩
/-- Fuse(0): the power goes off. -/
theorem fuse0 {m : Mem} (ho : m.off = false) : (m.fuse 0).off = true ∧ (m.fuse 0).code = m.code ∧ (m.fuse 0).count = m.count ∧ (m.fuse 0).next = m.next := by
  unfold Mem.fuse
  rw [if_neg (by simp [ho])]
  exact ⟨rfl, rfl, rfl, rfl⟩
/-- Storing without power. -/
theorem gpower {w0 w w' : World} {bj bm : Nat} {vm : Value} {m : Mem} {s : JS} {FR : Nat → Prop} {ws : Nat → Nat} {n c : Nat} {rows : List (List Nat)} {r : Ending} (h : JG w0 w bj bm vm m s FR ws n c) (ho : m.off = true) (he : errL n rows = 0) (hp : StorePost w bj bm vm m s FR ws rows r w') :
    ∃ m' s' FR' ws', r = .returned (.int .i64 21) ∧ JG w0 w' bj bm vm m' s' FR' ws' n (c + 20000) ∧ s'.rows = s.rows := by
  obtain ⟨e, m3, s3, FR3, ws3, rfl, hpj, hs, hfr, hwr, hlay, hok, hA, hBB, hC, hD⟩ := hp
  rw [h.jj.len] at hlay hA hBB hC
  obtain ⟨rfl, hr, _⟩ := hBB he ho
  exact ⟨m3, s3, FR3, ws3, rfl, ⟨⟨hpj, hok, by rw [hwr.len, h.jj.len], hlay, h.jj.bj, h.jj.bm, fun k hk => (hfr k hk).elim (h.jj.fr k) fun h2 => Nat.le_trans h.below.size h2⟩, hwr.near h.near, h.below.trans (hs.below h.below.size fun k hk => by
    rcases hk with rfl | hk | hk
    · exact h.jj.bj
    · exact h.jj.bm k hk
    · exact h.jj.fr k hk), by have := hwr.count; have := h.cnt; omega⟩, hr⟩
theorem gfuse0 {w0 w : World} {bj bm : Nat} {vm : Value} {m : Mem} {s : JS} {FR : Nat → Prop} {ws : Nat → Nat} {n c : Nat} (h : JG w0 w bj bm vm m s FR ws n c) (ho : m.off = false) :
    Calls Tryd.prog 21 #[.pointer (some ⟨bm, 0, none⟩), .int .i64 0] w fun r w' => r = .returned (.tuple #[]) ∧ JG w0 w' bj bm vm (m.fuse 0) s FR ws n c ∧ (m.fuse 0).off = true :=
  (pfuse_any h.jj.pj.pm 0).mono fun _ _ ⟨hr, hp, hs⟩ => by
    obtain ⟨h1, h2, h3, h4⟩ := fuse0 ho
    exact ⟨hr, h.mem hp hs (fuse_ok h.jj.ok (by decide)) (by rw [h2]) (h.near.as h2) h3, h1⟩
theorem gappend2 {w0 w : World} {bj bm : Nat} {vm : Value} {m : Mem} {s : JS} {FR : Nat → Prop} {ws : Nat → Nat} {n c : Nat} (h : JG w0 w bj bm vm m s FR ws n c) (tb : E.Tab w0) (h16 : 16 ≤ n) (hc : c ≤ 900000) (ho : m.off = false) (hl : m.left = 0) (x y : Nat) (hx : x < 4294967296) (hy : y < 4294967296) :
    Calls Tryd.prog 17 #[.pointer (some ⟨bj, 0, none⟩), .slice (some ⟨w.heap.size, 0, none⟩) 2 2] (w.alloc (.cells #[.int .u32 (x : Int), .int .u32 (y : Int)] 30)) (GPost w0 (w.alloc (.cells #[.int .u32 (x : Int), .int .u32 (y : Int)] 30)) bj bm vm FR n c s.rows (s.rows ++ [[x, y]])) :=
  gappend (h.keep ((Below.refl _ _).alloc (Nat.le_refl _) _)) tb h16 hc ho hl (rd_two w x y (G := fun k => ¬ Mut bj bm vm FR k) (fun e => by have := h.mut_lt _ e; omega)) (fun k hk => hk) (by show 2 ≤ 1000; decide) (fun z hz => by
    simp only [List.mem_cons, List.not_mem_nil, or_false] at hz
    rcases hz with rfl | rfl
    · exact hx
    · exact hy)
theorem gappend0 {w0 w : World} {bj bm : Nat} {vm : Value} {m : Mem} {s : JS} {FR : Nat → Prop} {ws : Nat → Nat} {n c : Nat} (h : JG w0 w bj bm vm m s FR ws n c) (tb : E.Tab w0) (h16 : 16 ≤ n) (hc : c ≤ 900000) (ho : m.off = false) (hl : m.left = 0) :
    Calls Tryd.prog 17 #[.pointer (some ⟨bj, 0, none⟩), .slice none 0 0] w (GPost w0 w bj bm vm FR n c s.rows (s.rows ++ [[]])) :=
  gappend h tb h16 hc ho hl (G := fun k => ¬ Mut bj bm vm FR k) Sl.nil (fun k hk => hk) (by decide) (fun z hz => by simp at hz)
/-- The literal of a record of two words and an empty one. -/
theorem rr_two (w : World) (x y : Nat) :
    RR ((w.alloc (.cells #[.int .u32 (x : Int), .int .u32 (y : Int)] 30)).alloc (.cells #[.slice (some ⟨w.heap.size, 0, none⟩) 2 2, .slice none 0 0] 35)) (fun _ => True) (.slice (some ⟨w.heap.size + 1, 0, none⟩) 2 2) [[x, y], []] := by
  have h1 := rd_two w x y (G := fun _ => True) trivial
  have h2 : Rd ((w.alloc (.cells #[.int .u32 (x : Int), .int .u32 (y : Int)] 30)).alloc (.cells #[.slice (some ⟨w.heap.size, 0, none⟩) 2 2, .slice none 0 0] 35)) (fun _ => True) (.slice (some ⟨w.heap.size, 0, none⟩) 2 2) [x, y] := Sl.keep h1 ((Below.refl _ _).alloc (Nat.le_refl _) _)
  refine ⟨[.slice (some ⟨w.heap.size, 0, none⟩) 2 2, .slice none 0 0], ⟨some ⟨w.heap.size + 1, 0, none⟩, 2, rfl, (fun e => by cases e), Nat.le_refl _, fun j u hu => ⟨_, rfl, trivial, ?_⟩⟩, rfl, ?_, ?_⟩
  · have hb := heap_alloc_new (w.alloc (.cells #[.int .u32 (x : Int), .int .u32 (y : Int)] 30)) (.cells #[.slice (some ⟨w.heap.size, 0, none⟩) 2 2, .slice none 0 0] 35)
    rw [World.size_alloc] at hb
    have e : (⟨w.heap.size + 1, 0, none⟩ : Addr).add j = ⟨w.heap.size + 1, j, none⟩ := by unfold Addr.add; split <;> simp_all
    rw [e]
    refine ⟨?_, blk_frozen hb j⟩
    rw [blk_cell hb j, ← hu]
    simp
  · intro u hu
    simp only [List.mem_cons, List.not_mem_nil, or_false] at hu
    rcases hu with rfl | rfl <;> rfl
  · intro i u xs hu hx
    rcases i with _ | _ | i
    · simp only [List.getElem?_cons_zero, Option.some.injEq] at hu hx
      subst hu hx
      exact h2
    · simp only [List.getElem?_cons_succ, List.getElem?_cons_zero, Option.some.injEq] at hu hx
      subst hu hx
      exact Sl.nil
    · simp at hu
set_option maxHeartbeats 8000000 in
theorem lives_any (w : World) (tb : E.Tab w) : Calls Tryd.prog 31 #[] w fun r w' => r = .returned (.bool true) ∧ Below w.heap.size w w' := by
  have H0 := Lib.hid (pnew_any 16 w tb)
  have HTB := Lib.hid tb
  clear tb
  go_enter Tryd.func31, Tryd.ntmps31
  go_wp2_with fail
  refine H0.out.mono ?_
  intro r w1 hp
  obtain ⟨bm, vm, rfl, hmade⟩ := newPost_get (n := 16) (by decide) (by decide) hp
  have H1 := Lib.hid hmade
  clear hp hmade
  go_wp2_with fail
  refine (pformat_any H1.out.1 (new_ok (by decide) (by decide)) (HTB.out.below HTB.out.pos H1.out.2.2) (by show (0 : Nat) ≤ _; omega) (fun _ => 0)).mono ?_
  intro r w2 hp
  obtain ⟨bj, m2, s2, FR2, ws2, rfl, hg, hrows, ho, hl, _⟩ := FormatPost.good H1.out (by decide) hp
  have H2 := Lib.hid (And.intro hg (And.intro hrows (And.intro ho hl)))
  clear hp hg hrows ho hl
  go_wp2_with fail
  refine (gfree H2.out.1 (by decide)).mono ?_
  rintro r w3 ⟨rfl, q3, hw3⟩
  rw [H2.out.2.1, show freeL 16 [] = 3 by decide]
  have H3 := Lib.hid (show JG w w3 bj bm vm m2 s2 FR2 ws2 16 20000 by rw [hw3]; exact H2.out.1.drewN q3)
  clear hw3
  go_wp2_with fail
  refine (gappend2 H3.out HTB.out (by decide) (by decide) H2.out.2.2.1 H2.out.2.2.2 5 6 (by decide) (by decide)).mono ?_
  rintro r w4 ⟨m4, s4, FR4, ws4, rfl, hg, hr, ho, hl, _⟩
  rw [H2.out.2.1] at hr
  rw [show errL 16 (s2.rows ++ [[5, 6]]) = 0 by rw [H2.out.2.1]; decide]
  rw [if_pos (by decide)] at hr
  have H4 := Lib.hid (And.intro hg (And.intro hr (And.intro ho hl)))
  clear hg hr ho hl
  go_wp2_with fail
  refine (gfree H4.out.1 (by decide)).mono ?_
  rintro r w5 ⟨rfl, q5, hw5⟩
  rw [H4.out.2.1, show freeL 16 ([] ++ [[5, 6]]) = 0 by decide]
  have H5 := Lib.hid (show JG w w5 bj bm vm m4 s4 FR4 ws4 16 40000 by rw [hw5]; exact H4.out.1.drewN q5)
  clear hw5
  go_wp2_with fail
  refine (gappend2 H5.out HTB.out (by decide) (by decide) H4.out.2.2.1 H4.out.2.2.2 7 8 (by decide) (by decide)).mono ?_
  rintro r w6 ⟨m6, s6, FR6, ws6, rfl, hg, hr, ho, hl, _⟩
  rw [H4.out.2.1] at hr
  rw [show errL 16 (s4.rows ++ [[7, 8]]) = 9 by rw [H4.out.2.1]; decide]
  rw [if_neg (by decide)] at hr
  have H6 := Lib.hid (And.intro hg (And.intro hr (And.intro ho hl)))
  clear hg hr ho hl
  go_wp2_with fail
  refine (gappend0 H6.out.1 HTB.out (by decide) (by decide) H6.out.2.2.1 H6.out.2.2.2).mono ?_
  rintro r w7 ⟨m7, s7, FR7, ws7, rfl, hg, hr, ho, hl, _⟩
  rw [H6.out.2.1] at hr
  rw [show errL 16 (s6.rows ++ [[]]) = 0 by rw [H6.out.2.1]; decide]
  rw [if_pos (by decide)] at hr
  have H7 := Lib.hid (And.intro hg (And.intro hr (And.intro ho hl)))
  clear hg hr ho hl
  go_wp2_with fail
  refine (gfree H7.out.1 (by decide)).mono ?_
  rintro r w8 ⟨rfl, q8, hw8⟩
  rw [H7.out.2.1, show freeL 16 ([] ++ [[5, 6]] ++ [[]]) = -1 by decide]
  have H8 := Lib.hid (show JG w w8 bj bm vm m7 s7 FR7 ws7 16 80000 by rw [hw8]; exact H7.out.1.drewN q8)
  clear hw8
  go_wp2_with fail
  refine (gfuse0 H8.out H7.out.2.2.1).mono ?_
  rintro r w9 ⟨rfl, hg, ho⟩
  have H9 := Lib.hid (And.intro hg ho)
  clear hg ho
  go_wp2_with fail
  refine (preplace_any H9.out.1.jj.pj H9.out.1.jj.ok (H9.out.1.tab HTB.out) (by have := H9.out.1.cnt; omega) (by rw [H9.out.1.jj.len]; decide) H9.out.1.near.weak (by rw [H9.out.1.jj.len]; exact H9.out.1.jj.lay) (G := fun k => ¬ Mut bj bm vm FR7 k) RR.nil (fun k hk => ⟨fun e => hk (.inl e), fun e => hk (.inr (.inl e))⟩) (by decide) (fun r hr => by simp at hr)).mono ?_
  intro r w10 hp
  obtain ⟨m10, s10, FR10, ws10, rfl, hg, hr⟩ := gpower H9.out.1 H9.out.2 (by decide) hp
  have H10 := Lib.hid (And.intro hg hr)
  clear hp hg hr
  go_wp2_with fail
  refine (gopens ((H10.out.1.keep ((Below.refl _ _).alloc (Nat.le_refl _) _)).keep ((Below.refl _ _).alloc (Nat.le_refl _) _)) HTB.out (by decide) (by decide) (rr_two w10 5 6)).mono ?_
  rintro r w11 ⟨rfl, hb⟩
  rw [H10.out.2, H7.out.2.1, show decide ([] ++ [[5, 6]] ++ [[]] = [[5, 6], []]) = true by decide]
  have HB := Lib.hid ((((H10.out.1.below).alloc H10.out.1.below.size _).alloc (by have := H10.out.1.below.size; simp; omega) _).trans (hb.mono (by have := H10.out.1.below.size; simp; omega)))
  clear hb
  go_wp2_with fail
  go_ret
  exact ⟨rfl, HB.out⟩
/-! ### The specification's functions, the sets of blocks left out -/
theorem grecord (n : Int) (h0 : -9223372036854775808 ≤ n) (h1 : n ≤ 9223372036854775807) (first : Nat) (hf : first < 4294967296) (w : World) :
    Calls Tryd.prog 14 #[.int .i64 n, .int .u32 (first : Nat)] w fun r w' => ∃ v', r = .returned v' ∧ Rd w' (fun k => w.heap.size ≤ k) v' (recL (around n 71).toNat first) ∧ Below w.heap.size w w' :=
  rrecord_any n h0 h1 first hf w _ fun _ hk => hk
theorem gwith {w : World} {G1 G2 : Nat → Prop} {v u : Value} {rows : List (List Nat)} {xs : List Nat} (h : RR w G1 v rows) (hx : Rd w G2 u xs) (hb : rows.length ≤ 1000000) :
    Calls Tryd.prog 16 #[v, u] w fun r w' => ∃ v', r = .returned v' ∧ RR w' (fun _ => True) v' (rows ++ [xs]) ∧ Below w.heap.size w w' :=
  rwith_any (h.mono fun _ _ _ => trivial) (Sl.mono hx fun _ _ _ => trivial) (fun _ _ => trivial) hb
theorem grecords {w0 w : World} {bj bm : Nat} {vm : Value} {m : Mem} {s : JS} {FR : Nat → Prop} {ws : Nat → Nat} {n c : Nat} (h : JG w0 w bj bm vm m s FR ws n c) (hn : n ≤ 1000) :
    Calls Tryd.prog 27 #[.pointer (some ⟨bj, 0, none⟩)] w fun r w' => ∃ v, r = .returned v ∧ RR w' (fun k => w.heap.size ≤ k) v s.rows ∧ Below w.heap.size w w' :=
  precords_any h.jj.pj (by have := errL_small hn h.jj.lay.ok; omega) _ fun _ hk => hk
/-- lives, in the course of a law. -/
theorem glives {w0 w : World} (hb : Below w0.heap.size w0 w) (tb : E.Tab w0) : Calls Tryd.prog 31 #[] w fun r w' => r = .returned (.bool true) ∧ Below w0.heap.size w0 w' :=
  (lives_any w (tb.below tb.pos hb)).mono fun _ _ ⟨h1, h2⟩ => ⟨h1, hb.trans (h2.mono hb.size)⟩
theorem errL_long2 {n : Nat} {rows : List (List Nat)} {xs : List Nat} (h : 64 < xs.length) : errL n (rows ++ [xs]) = 2 := by
  have : longL (rows ++ [xs]) = true := longL_yes (i := rows.length) (by simp) h
  unfold errL
  rw [this, if_pos rfl]
/-- A record of Free words can be added. -/
theorem errL_free {n : Nat} {rows : List (List Nat)} {xs : List Nat} (he : errL n rows = 0) {f : Int} (hf : freeL n rows = f) (h0 : ¬ f < 0) (hx : (xs.length : Int) = f) : errL n (rows ++ [xs]) = 0 := by
  unfold freeL at hf
  refine errL_intro (fun r hr => ?_) ?_
  · rcases List.mem_append.1 hr with h | h
    · exact errL_long he r h
    · rw [List.mem_singleton.1 h]
      omega
  · rw [usedL_snoc]
    have := errL_used he
    omega
theorem freeL_le {n : Nat} {rows : List (List Nat)} {f : Int} (hf : freeL n rows = f) : -1 ≤ f ∧ f ≤ 64 := by
  unfold freeL at hf
  omega
theorem made_step {w w1 w2 : World} {b : Nat} {v : Value} {m m' : Mem} (h : Made PM w w1 b v m) (h2 : PM w2 b v m') (hs : Save (FT b v) w1 w2) : Made PM w w2 b v m' := ⟨h2, h.2.1, h.2.2.trans (hs.below h.2.2.size h.2.1)⟩
theorem made_keep {w w1 w2 : World} {b : Nat} {v : Value} {m : Mem} (h : Made PM w w1 b v m) (hb : Below w1.heap.size w1 w2) : Made PM w w2 b v m := ⟨h.1.keep hb, h.2.1, h.2.2.trans (hb.mono h.2.2.size)⟩
theorem new_fuse_reset (n : Nat) : ((Mem.new n).fuse 0).reset = Mem.new n := rfl
/-- Format of a memory that has a journal. -/
theorem FormatPost.again {w0 w w' : World} {bj bm : Nat} {vm : Value} {m : Mem} {s : JS} {FR : Nat → Prop} {ws : Nat → Nat} {n c : Nat} {r : Ending} (h : JG w0 w bj bm vm m s FR ws n c) (h16 : 16 ≤ n) (ho : m.off = false) (hl : m.left = 0) (hp : FormatPost w bm vm m ws r w') :
    ∃ bj' m' s' FR' ws', r = .returned (.tuple #[.pointer (some ⟨bj', 0, none⟩), .int .i64 0]) ∧ JG w0 w' bj' bm vm m' s' FR' ws' n (c + 20000) ∧ s'.rows = [] ∧ m'.off = false ∧ m'.left = 0 := by
  obtain ⟨p, e, m2, rfl, hpm2, hok2, hs2, hl2, hc2, hA, hBB, hC⟩ := hp
  rw [h.jj.len] at hl2 hA hBB hC
  obtain ⟨rfl, ho2, hle2, bj', s', FR', ws', rfl, hpj, hbj, hFR, hrows, hwr, hlay⟩ := hC h16 ho hl
  exact ⟨bj', m2, s', FR', ws', rfl, ⟨⟨hpj, hok2, hl2, hlay, Nat.le_trans h.below.size hbj, h.jj.bm, fun k hk => Nat.le_trans h.below.size (hFR k hk)⟩, hwr.near h.near, h.below.trans (hs2.below h.below.size h.jj.bm), by have := h.cnt; omega⟩, hrows, ho2, hle2⟩
theorem rd_one (w : World) (x : Nat) {G : Nat → Prop} (hG : G w.heap.size) : Rd (w.alloc (.cells #[.int .u32 (x : Int)] 30)) G (.slice (some ⟨w.heap.size, 0, none⟩) 1 1) [x] := by
  refine ⟨some ⟨w.heap.size, 0, none⟩, 1, rfl, (fun e => by cases e), Nat.le_refl _, fun j u hu => ⟨_, rfl, hG, ?_⟩⟩
  have hb := heap_alloc_new w (.cells #[.int .u32 (x : Int)] 30)
  have e : (⟨w.heap.size, 0, none⟩ : Addr).add j = ⟨w.heap.size, j, none⟩ := by unfold Addr.add; split <;> simp_all
  rw [e]
  refine ⟨?_, blk_frozen hb j⟩
  rw [blk_cell hb j, ← hu]
  simp [w32]
theorem gappend1 {w0 w : World} {bj bm : Nat} {vm : Value} {m : Mem} {s : JS} {FR : Nat → Prop} {ws : Nat → Nat} {n c : Nat} (h : JG w0 w bj bm vm m s FR ws n c) (tb : E.Tab w0) (h16 : 16 ≤ n) (hc : c ≤ 900000) (ho : m.off = false) (hl : m.left = 0) (x : Nat) (hx : x < 4294967296) :
    Calls Tryd.prog 17 #[.pointer (some ⟨bj, 0, none⟩), .slice (some ⟨w.heap.size, 0, none⟩) 1 1] (w.alloc (.cells #[.int .u32 (x : Int)] 30)) (GPost w0 (w.alloc (.cells #[.int .u32 (x : Int)] 30)) bj bm vm FR n c s.rows (s.rows ++ [[x]])) :=
  gappend (h.keep ((Below.refl _ _).alloc (Nat.le_refl _) _)) tb h16 hc ho hl (rd_one w x (G := fun k => ¬ Mut bj bm vm FR k) (fun e => by have := h.mut_lt _ e; omega)) (fun k hk => hk) (by show 1 ≤ 1000; decide) (fun z hz => by rw [List.mem_singleton.1 hz]; exact hx)
theorem flip_none {m : Mem} {a b : Int} (h : bitIn b = false) : m.flip a b = m := (flipE_no (m := m) (a := a) (.inr h)).2
/-- A flip of a word that is as it was written, or of no bit. -/
theorem gflip {w0 w : World} {bj bm : Nat} {vm : Value} {m : Mem} {s : JS} {FR : Nat → Prop} {ws : Nat → Nat} {n c : Nat} (h : JG w0 w bj bm vm m s FR ws n c) {a b : Nat} (ha : a < n) (hc : Clean m ws a) :
    Calls Tryd.prog 24 #[.pointer (some ⟨bm, 0, none⟩), .int .i64 (a : Nat), .int .i64 (b : Nat)] w fun r w' => ∃ e m', r = .returned (.int .i64 e) ∧ JG w0 w' bj bm vm m' s FR ws n c ∧
      (∀ j, j ≠ a → Clean m ws j → Clean m' ws j) ∧ m'.off = m.off ∧ m'.left = m.left ∧ Save (FT bm vm) w w' :=
  (pflip_mem h.jj.pj.pm h.jj.ok (a : Int) (b : Int)).mono fun r w' ⟨hr, hp, hs⟩ => by
    have hl := h.jj.len
    refine ⟨_, _, hr, h.mem hp hs (flip_ok h.jj.ok _ _) (len_flip _ _ _) ?_ (flip_count _ _ _), fun j hj hcj => ?_, flip_off _ _ _, flip_left _ _ _, hs⟩
    · by_cases hb : b < 39
      · exact h.near.flip (by omega) hb hc
      · rw [flip_none (by unfold bitIn; simp; omega)]
        exact h.near
    · by_cases hb : b < 39
      · exact flip_clean_other (by omega) hb hj hcj
      · rw [flip_none (by unfold bitIn; simp; omega)]
        exact hcj
/-- As JG, but a word may have two flipped bits. -/
structure JW (w0 w : World) (bj bm : Nat) (vm : Value) (m : Mem) (s : JS) (FR : Nat → Prop) (ws : Nat → Nat) (n c : Nat) : Prop where
  jj : JJ w0.heap.size w bj bm vm m s FR ws n
  weak : Weak m ws
  below : Below w0.heap.size w0 w
  cnt : m.count ≤ c
theorem JW.keep {w0 w w' : World} {bj bm : Nat} {vm : Value} {m : Mem} {s : JS} {FR : Nat → Prop} {ws : Nat → Nat} {n c : Nat} (h : JW w0 w bj bm vm m s FR ws n c) (hb : Below w.heap.size w w') : JW w0 w' bj bm vm m s FR ws n c :=
  ⟨{ h.jj with pj := h.jj.pj.save (F := fun _ => False) (Save.of_below _ hb) (fun _ e => e.elim) }, h.weak, h.below.trans (hb.mono h.below.size), h.cnt⟩
theorem JW.mut_lt {w0 w : World} {bj bm : Nat} {vm : Value} {m : Mem} {s : JS} {FR : Nat → Prop} {ws : Nat → Nat} {n c : Nat} (h : JW w0 w bj bm vm m s FR ws n c) : ∀ k, Mut bj bm vm FR k → k < w.heap.size := fun k hk => by
  rcases hk with rfl | hk | hk
  · exact h.jj.pj.lt.1
  · exact h.jj.pj.pm.lt k hk
  · exact h.jj.pj.lt.2 k hk
/-- Two bits of a word that is as it was written are flipped. -/
theorem JG.twice {w0 w w1 w2 : World} {bj bm : Nat} {vm : Value} {m : Mem} {s : JS} {FR : Nat → Prop} {ws : Nat → Nat} {n c : Nat} (h : JG w0 w bj bm vm m s FR ws n c) (hcl : ∀ j, j < n → Clean m ws j) {a x y : Nat} (ha : a < n) (hx : x < 39) (hy : y < 39)
    (h1 : PM w1 bm vm (m.flip a x)) (s1 : Save (FT bm vm) w w1) (h2 : PM w2 bm vm ((m.flip a x).flip a y)) (s2 : Save (FT bm vm) w1 w2) : JW w0 w2 bj bm vm ((m.flip a x).flip a y) s FR ws n c := by
  have hl := h.jj.len
  have hl1 : (m.flip a x).code.length = n := by rw [len_flip, hl]
  have hl2 : ((m.flip a x).flip a y).code.length = n := by rw [len_flip, hl1]
  refine ⟨⟨h.jj.pj.mem h2 (s1.trans s2) (by rw [hl2, hl]), flip_ok (flip_ok h.jj.ok _ _) _ _, hl2, h.jj.lay, h.jj.bj, h.jj.bm, h.jj.fr⟩, fun j hj => ?_, h.below.trans ((s1.trans s2).below h.below.size h.jj.bm), by rw [flip_count, flip_count]; exact h.cnt⟩
  rw [hl2] at hj
  refine ⟨(h.near j (by omega)).1, ?_⟩
  have e1 : ((m.flip a x).flip a y).at j = if j = a then (m.flip a x).at a ^^^ 2 ^ y else (m.flip a x).at j := at_flip (by omega) (by omega) j
  have e2 : ∀ i, (m.flip a x).at i = if i = a then m.at a ^^^ 2 ^ x else m.at i := fun i => at_flip (by omega) (by omega) i
  by_cases hja : j = a
  · subst hja
    rw [if_pos rfl, e2, if_pos rfl, hcl j hj] at e1
    by_cases hxy : x = y
    · subst hxy
      left
      unfold Clean
      rw [e1, Nat.xor_assoc, Nat.xor_self, Nat.xor_zero]
    · right; right
      exact ⟨x, y, hx, hy, hxy, e1⟩
  · left
    unfold Clean
    rw [e1, if_neg hja, e2, if_neg hja]
    exact hcl j hj
/-- Open of such a memory. -/
theorem wopen {w0 w : World} {bj bm : Nat} {vm : Value} {m : Mem} {s : JS} {FR : Nat → Prop} {ws : Nat → Nat} {n c : Nat} (h : JW w0 w bj bm vm m s FR ws n c) (tb : E.Tab w0) (h16 : 16 ≤ n) :
    Calls Tryd.prog 23 #[.pointer (some ⟨bm, 0, none⟩)] w fun r w' => ∃ p e, r = .returned (.tuple #[.pointer p, .int .i64 e]) ∧ JW w0 w' bj bm vm m s FR ws n c ∧
      (e = 20 ∨ (e = 0 ∧ ∃ bk s' FK, p = some ⟨bk, 0, none⟩ ∧ PJ w' bk bm vm m s' FK ∧ s'.rows = s.rows)) := by
  have hO := popen_any h.jj.pj.pm h.jj.ok (tb.below tb.pos h.below) (by rw [h.jj.len]; exact h16) ws s h.weak (by rw [h.jj.len]; exact h.jj.lay)
  refine hO.mono ?_
  rintro r w' ⟨p, e, rfl, hb, hc⟩
  refine ⟨p, e, rfl, h.keep hb, ?_⟩
  rcases hc with ⟨he, _⟩ | ⟨he, bk, s', FK, hp, hpj, _, _, hr, _⟩
  · exact .inl he
  · exact .inr ⟨he, bk, s', FK, hp, hpj, hr⟩
/-- Replace, the power on. -/
theorem wreplace {w0 w : World} {bj bm : Nat} {vm v : Value} {m : Mem} {s : JS} {FR : Nat → Prop} {ws : Nat → Nat} {n c : Nat} {rows : List (List Nat)} {G : Nat → Prop} (h : JW w0 w bj bm vm m s FR ws n c) (tb : E.Tab w0) (h16 : 16 ≤ n) (hc : c ≤ 900000) (ho : m.off = false) (hl : m.left = 0)
    (hr : RR w G v rows) (hG : ∀ k, G k → ¬ Mut bj bm vm FR k) (hu : usedL rows ≤ 1000) (hx : ∀ r ∈ rows, ∀ x ∈ r, x < 4294967296) (he : errL n rows = 0) :
    Calls Tryd.prog 20 #[.pointer (some ⟨bj, 0, none⟩), v] w fun r w' => ∃ m' s' FR' ws', r = .returned (.int .i64 0) ∧ JW w0 w' bj bm vm m' s' FR' ws' n (c + 20000) ∧ s'.rows = rows := by
  refine (preplace_any h.jj.pj h.jj.ok (tb.below tb.pos h.below) (by have := h.cnt; omega) (by rw [h.jj.len]; exact h16) h.weak (by rw [h.jj.len]; exact h.jj.lay) hr (fun k hk => ⟨fun e => hG k hk (.inl e), fun e => hG k hk (.inr (.inl e))⟩) hu hx).mono ?_
  rintro r w' ⟨e, m3, s3, FR3, ws3, rfl, hpj, hs, hfr, hwr, hlay, hok, hA, hBB, hC, hD⟩
  rw [h.jj.len] at hlay hA hBB hC
  obtain ⟨ho3, hl3⟩ := hD ho hl
  rcases hC he ho with ⟨rfl, hr3⟩ | ⟨_, _, hof⟩
  · exact ⟨m3, s3, FR3, ws3, rfl, ⟨⟨hpj, hok, by rw [hwr.len, h.jj.len], hlay, h.jj.bj, h.jj.bm, fun k hk => (hfr k hk).elim (h.jj.fr k) fun h2 => Nat.le_trans h.below.size h2⟩, hwr.weak h.weak, h.below.trans (hs.below h.below.size fun k hk => by
      rcases hk with rfl | hk | hk
      · exact h.jj.bj
      · exact h.jj.bm k hk
      · exact h.jj.fr k hk), by have := hwr.count; have := h.cnt; omega⟩, hr3⟩
  · rw [ho3] at hof; cases hof
/-- The literal of one record of two words. -/
theorem rr_one (w : World) (x y : Nat) {G : Nat → Prop} (hG : ∀ k, w.heap.size ≤ k → G k) :
    RR ((w.alloc (.cells #[.int .u32 (x : Int), .int .u32 (y : Int)] 30)).alloc (.cells #[.slice (some ⟨w.heap.size, 0, none⟩) 2 2] 35)) G (.slice (some ⟨w.heap.size + 1, 0, none⟩) 1 1) [[x, y]] := by
  have h1 := rd_two w x y (G := G) (hG _ (Nat.le_refl _))
  have h2 : Rd ((w.alloc (.cells #[.int .u32 (x : Int), .int .u32 (y : Int)] 30)).alloc (.cells #[.slice (some ⟨w.heap.size, 0, none⟩) 2 2] 35)) G (.slice (some ⟨w.heap.size, 0, none⟩) 2 2) [x, y] := Sl.keep h1 ((Below.refl _ _).alloc (Nat.le_refl _) _)
  refine ⟨[.slice (some ⟨w.heap.size, 0, none⟩) 2 2], ⟨some ⟨w.heap.size + 1, 0, none⟩, 1, rfl, (fun e => by cases e), Nat.le_refl _, fun j u hu => ⟨_, rfl, hG _ (by show _ ≤ w.heap.size + 1; omega), ?_⟩⟩, rfl, ?_, ?_⟩
  · have hb := heap_alloc_new (w.alloc (.cells #[.int .u32 (x : Int), .int .u32 (y : Int)] 30)) (.cells #[.slice (some ⟨w.heap.size, 0, none⟩) 2 2] 35)
    rw [World.size_alloc] at hb
    have e : (⟨w.heap.size + 1, 0, none⟩ : Addr).add j = ⟨w.heap.size + 1, j, none⟩ := by unfold Addr.add; split <;> simp_all
    rw [e]
    refine ⟨?_, blk_frozen hb j⟩
    rw [blk_cell hb j, ← hu]
    simp
  · intro u hu
    rw [List.mem_singleton.1 hu]; rfl
  · intro i u xs hu hx
    rcases i with _ | i
    · simp only [List.getElem?_cons_zero, Option.some.injEq] at hu hx
      subst hu hx
      exact h2
    · simp at hu
theorem two_allocs (w : World) (a b : Obj) : Below w.heap.size w ((w.alloc a).alloc b) := ((Below.refl _ _).alloc (Nat.le_refl _) a).alloc (by simp) b
theorem rowsN_len (n : Nat) (l : List Int) : ∀ k, (rowsN n l k).length ≤ k
  | 0 => by simp [rowsN]
  | k + 1 => by
    have h := rowsN_len n l k
    cases hx : l[k]? with
    | none =>
      have e : rowsN n l (k + 1) = rowsN n l k := by unfold rowsN; rw [List.take_add_one, hx]; simp
      rw [e]; omega
    | some x =>
      rw [rowsN_succ n l hx]
      unfold rowsStep
      split
      · simp; omega
      · omega
theorem rowsL_len (n : Nat) (l : List Int) : (rowsL n l).length ≤ 10 := rowsN_len n l 10
theorem errL_take {n : Nat} {rows : List (List Nat)} (h : errL n rows = 0) (k : Nat) : errL n (rows.take k) = 0 :=
  errL_intro (fun r hr => errL_long h r (List.mem_of_mem_take hr)) (by have h1 := errL_used h; have h2 := usedL_take_le rows k; omega)
theorem take_snoc {rows : List (List Nat)} {k : Nat} {xs : List Nat} (h : rows[k]? = some xs) : rows.take k ++ [xs] = rows.take (k + 1) := by rw [List.take_add_one, h]; rfl
theorem RR_take {w : World} {G : Nat → Prop} {A : Option Addr} {n c k : Nat} {rows : List (List Nat)} (h : RR w G (.slice A n c) rows) (hk : k ≤ rows.length) : RR w G (.slice A k c) (rows.take k) := by
  obtain ⟨us, ⟨A', c', e, h0, hcap, hr⟩, h2, h3, h4⟩ := h
  injection e with e1 e2 e3
  subst e1 e2 e3
  have hl : (us.take k).length = k := by simp; omega
  refine ⟨us.take k, ⟨A, c, by rw [hl], h0, by rw [hl]; omega, fun j u hu => ?_⟩, by simp [h2], fun u hu => h3 u (List.mem_of_mem_take hu), fun i u xs hu hx => ?_⟩
  · rw [List.getElem?_take] at hu
    split at hu
    · exact hr j u hu
    · cases hu
  · rw [List.getElem?_take] at hu hx
    split at hu
    · next hi =>
      rw [if_pos hi] at hx
      exact h4 i u xs hu hx
    · cases hu
/-- What storing leaves, whatever the power. -/
def APost (w0 w : World) (bj bm : Nat) (vm : Value) (FR : Nat → Prop) (n c : Nat) (old rows : List (List Nat)) (r : Ending) (w' : World) : Prop :=
  ∃ e m' s' FR' ws', r = .returned (.int .i64 e) ∧ JG w0 w' bj bm vm m' s' FR' ws' n (c + 20000) ∧ Save (Mut bj bm vm FR) w w' ∧ (∀ k, FR' k → FR k ∨ w.heap.size ≤ k) ∧ ((e = 0 ∧ s'.rows = rows) ∨ (e = 21 ∧ s'.rows = old ∧ m'.off = true))
theorem StorePost.any {w0 w w' : World} {bj bm : Nat} {vm : Value} {m : Mem} {s : JS} {FR : Nat → Prop} {ws : Nat → Nat} {n c : Nat} {rows : List (List Nat)} {r : Ending} (h : JG w0 w bj bm vm m s FR ws n c) (he : errL n rows = 0) (hp : StorePost w bj bm vm m s FR ws rows r w') : APost w0 w bj bm vm FR n c s.rows rows r w' := by
  obtain ⟨e, m3, s3, FR3, ws3, rfl, hpj, hs, hfr, hwr, hlay, hok, hA, hBB, hC, hD⟩ := hp
  rw [h.jj.len] at hlay hA hBB hC
  have hg : JG w0 w' bj bm vm m3 s3 FR3 ws3 n (c + 20000) := ⟨⟨hpj, hok, by rw [hwr.len, h.jj.len], hlay, h.jj.bj, h.jj.bm, fun k hk => (hfr k hk).elim (h.jj.fr k) fun h2 => Nat.le_trans h.below.size h2⟩, hwr.near h.near, h.below.trans (hs.below h.below.size fun k hk => by
    rcases hk with rfl | hk | hk
    · exact h.jj.bj
    · exact h.jj.bm k hk
    · exact h.jj.fr k hk), by have := hwr.count; have := h.cnt; omega⟩
  cases ho : m.off with
  | true =>
    obtain ⟨he1, hr1, ho1⟩ := hBB he ho
    exact ⟨e, m3, s3, FR3, ws3, rfl, hg, hs, hfr, .inr ⟨he1, hr1, ho1⟩⟩
  | false => exact ⟨e, m3, s3, FR3, ws3, rfl, hg, hs, hfr, hC he ho⟩
theorem gappendA {w0 w : World} {bj bm : Nat} {vm v : Value} {m : Mem} {s : JS} {FR : Nat → Prop} {ws : Nat → Nat} {n c : Nat} {xs : List Nat} {G : Nat → Prop} (h : JG w0 w bj bm vm m s FR ws n c) (tb : E.Tab w0) (h16 : 16 ≤ n) (hc : c ≤ 900000)
    (hr : Rd w G v xs) (hG : ∀ k, G k → ¬ Mut bj bm vm FR k) (hu : xs.length ≤ 1000) (hx : ∀ x ∈ xs, x < 4294967296) (he : errL n (s.rows ++ [xs]) = 0) :
    Calls Tryd.prog 17 #[.pointer (some ⟨bj, 0, none⟩), v] w (APost w0 w bj bm vm FR n c s.rows (s.rows ++ [xs])) :=
  (pappend_any h.jj.pj h.jj.ok (h.tab tb) (by have := h.cnt; omega) (by rw [h.jj.len]; exact h16) h.near.weak (by rw [h.jj.len]; exact h.jj.lay) hr (fun k hk => ⟨fun e => hG k hk (.inl e), fun e => hG k hk (.inr (.inl e)), fun e => hG k hk (.inr (.inr e))⟩) hu hx).mono fun _ _ hp => hp.any h he
theorem greplaceA {w0 w : World} {bj bm : Nat} {vm v : Value} {m : Mem} {s : JS} {FR : Nat → Prop} {ws : Nat → Nat} {n c : Nat} {rows : List (List Nat)} {G : Nat → Prop} (h : JG w0 w bj bm vm m s FR ws n c) (tb : E.Tab w0) (h16 : 16 ≤ n) (hc : c ≤ 900000)
    (hr : RR w G v rows) (hG : ∀ k, G k → ¬ Mut bj bm vm FR k) (hu : usedL rows ≤ 1000) (hx : ∀ r ∈ rows, ∀ x ∈ r, x < 4294967296) (he : errL n rows = 0) :
    Calls Tryd.prog 20 #[.pointer (some ⟨bj, 0, none⟩), v] w (APost w0 w bj bm vm FR n c s.rows rows) :=
  (preplace_any h.jj.pj h.jj.ok (h.tab tb) (by have := h.cnt; omega) (by rw [h.jj.len]; exact h16) h.near.weak (by rw [h.jj.len]; exact h.jj.lay) hr (fun k hk => ⟨fun e => hG k hk (.inl e), fun e => hG k hk (.inr (.inl e))⟩) hu hx).mono fun _ _ hp => hp.any h he
/-- Open of a clone: a journal of its own, over the same words. -/
theorem gclone {w0 w w1 w' : World} {bj bm b : Nat} {vm v : Value} {m : Mem} {s : JS} {FR : Nat → Prop} {ws : Nat → Nat} {n c : Nat} {r : Ending} (h : JG w0 w bj bm vm m s FR ws n c) (hm : Made PM w w1 b v m) (hp : OpenPost w1 b v m ws s r w') :
    ∃ bk s' FK, r = .returned (.tuple #[.pointer (some ⟨bk, 0, none⟩), .int .i64 0]) ∧ JG w w' bk b v m s' FK ws n c ∧ s'.rows = s.rows := by
  obtain ⟨p, e, rfl, hb, hc⟩ := hp
  rcases hc with ⟨_, hn⟩ | ⟨rfl, bk, s', FK, rfl, hpj, hbk, hFK, hr, hlay⟩
  · exact absurd h.near hn
  · rw [h.jj.len] at hlay
    exact ⟨bk, s', FK, rfl, ⟨⟨hpj, h.jj.ok, h.jj.len, hlay, Nat.le_trans hm.2.2.size hbk, hm.2.1, fun k hk => Nat.le_trans hm.2.2.size (hFK k hk)⟩, h.near, hm.2.2.trans (hb.mono hm.2.2.size), h.cnt⟩, hr⟩
theorem gfuse {w0 w : World} {bj bm : Nat} {vm : Value} {m : Mem} {s : JS} {FR : Nat → Prop} {ws : Nat → Nat} {n c : Nat} (h : JG w0 w bj bm vm m s FR ws n c) (q : Int) (hq : q ≤ 9223372036854775807) :
    Calls Tryd.prog 21 #[.pointer (some ⟨bm, 0, none⟩), .int .i64 q] w fun r w' => r = .returned (.tuple #[]) ∧ JG w0 w' bj bm vm (m.fuse q) s FR ws n c ∧ Save (FT bm vm) w w' :=
  (pfuse_any h.jj.pj.pm q).mono fun _ _ ⟨hr, hp, hs⟩ => by
    have hc : (m.fuse q).count = m.count := by unfold Mem.fuse; split <;> rfl
    exact ⟨hr, h.mem hp hs (fuse_ok h.jj.ok hq) (by rw [fuse_code]) (h.near.as (fuse_code m q)) hc, hs⟩
/-- Some record. -/
theorem gsome (n : Int) (h0 : -9223372036854775808 ≤ n) (h1 : n ≤ 9223372036854775807) (first : Nat) (hf : first < 4294967296) (w : World) :
    Calls Tryd.prog 14 #[.int .i64 n, .int .u32 (first : Nat)] w fun r w' => ∃ v' xs, r = .returned v' ∧ Rd w' (fun k => w.heap.size ≤ k) v' xs ∧ xs.length < 71 ∧ (∀ x ∈ xs, x < 4294967296) ∧ Below w.heap.size w w' :=
  (grecord n h0 h1 first hf w).mono fun _ _ ⟨v', e, hr, hb⟩ => by
    have h := around_lt n (m := 71) (by decide)
    exact ⟨v', _, e, hr, by rw [recL_len]; omega, recL_lt _ _, hb⟩
/-- Something else has been written. -/
theorem JG.side {w0 w w' : World} {bj bm : Nat} {vm : Value} {m : Mem} {s : JS} {FR F : Nat → Prop} {ws : Nat → Nat} {n c : Nat} (h : JG w0 w bj bm vm m s FR ws n c) (hs : Save F w w') (hF : ∀ k, F k → ¬ Mut bj bm vm FR k ∧ w0.heap.size ≤ k) : JG w0 w' bj bm vm m s FR ws n c :=
  ⟨{ h.jj with pj := h.jj.pj.save hs fun k hk => ⟨fun e => (hF k hk).1 (.inl e), fun e => (hF k hk).1 (.inr (.inl e)), fun e => (hF k hk).1 (.inr (.inr e))⟩ }, h.near, h.below.trans (hs.below h.below.size fun k hk => (hF k hk).2), h.cnt⟩
/-- The elements of rows are slices. -/
theorem RR_slices {w : World} {G : Nat → Prop} {v : Value} {rows : List (List Nat)} (h : RR w G v rows) : ∃ us, MR w G v us (rows.map List.length) ∧ ∀ u ∈ us, ∃ A n c, u = .slice A n c := by
  obtain ⟨us, h1⟩ := h.mr
  refine ⟨us, h1, fun u hu => ?_⟩
  obtain ⟨i, hi⟩ := List.mem_iff_getElem?.1 hu
  have hlt := (List.getElem?_eq_some_iff.1 hi).1
  obtain ⟨A, c, e, _⟩ := h1.2.2 i u _ hi (List.getElem?_eq_getElem (by rw [← h1.2.1]; exact hlt))
  exact ⟨A, _, c, e⟩
end J
end Go.Proofs.YtnoohhpajoaaoaaDoor
