/-
  What the steps of JournalScript leave.
-/
import Derived.Test.YtnoohhpajoaaoaaDoorJLives
import Derived.Test.YtnoohhpajoaaoaaDoorJOpen
namespace Go.Proofs.YtnoohhpajoaaoaaDoor
open Go.RowKit
namespace J
open H R M
set_option linter.unusedVariables false
set_option maxRecDepth 100000
theorem infoB : (Tryd.prog.info? 4).map (fun i => (i.zero, i.size, i.bytes)) = some (some (.bool false), 1, 1) := by kernel_rfl
/-- What storing leaves, whatever the power. -/
def SPost (w0 w : World) (bj bm : Nat) (vm : Value) (m : Mem) (s : JS) (FR : Nat → Prop) (ws : Nat → Nat) (n c : Nat) (rows : List (List Nat)) (r : Ending) (w' : World) : Prop :=
  ∃ e m' s' FR' ws', r = .returned (.int .i64 e) ∧ JG w0 w' bj bm vm m' s' FR' ws' n (c + 20000) ∧ Save (Mut bj bm vm FR) w w' ∧ (∀ a, a < n → Clean m ws a → Clean m' ws' a) ∧ (∀ k, FR' k → FR k ∨ w.heap.size ≤ k) ∧
    (m.off = false → m.left = 0 → m'.off = false ∧ m'.left = 0) ∧ (∀ fuse : Bool, (fuse = false → m.off = false ∧ m.left = 0) → storeOk (errL n rows) (!m.off) fuse m'.off e = true) ∧ s'.rows = if storeK (errL n rows) (!m.off) e = true then rows else s.rows
theorem StorePost.step {w0 w w' : World} {bj bm : Nat} {vm : Value} {m : Mem} {s : JS} {FR : Nat → Prop} {ws : Nat → Nat} {n c : Nat} {rows : List (List Nat)} {r : Ending} (h : JG w0 w bj bm vm m s FR ws n c) (hp : StorePost w bj bm vm m s FR ws rows r w') : SPost w0 w bj bm vm m s FR ws n c rows r w' := by
  obtain ⟨e, m3, s3, FR3, ws3, rfl, hpj, hs, hfr, hwr, hlay, hok, hA, hBB, hC, hD⟩ := hp
  rw [h.jj.len] at hlay hA hBB hC
  have hg : JG w0 w' bj bm vm m3 s3 FR3 ws3 n (c + 20000) := ⟨⟨hpj, hok, by rw [hwr.len, h.jj.len], hlay, h.jj.bj, h.jj.bm, fun k hk => (hfr k hk).elim (h.jj.fr k) fun h2 => Nat.le_trans h.below.size h2⟩, hwr.near h.near, h.below.trans (hs.below h.below.size fun k hk => by
    rcases hk with rfl | hk | hk
    · exact h.jj.bj
    · exact h.jj.bm k hk
    · exact h.jj.fr k hk), by have := hwr.count; have := h.cnt; omega⟩
  refine ⟨e, m3, s3, FR3, ws3, rfl, hg, hs, fun a ha hc => hwr.clean (by rw [h.jj.len]; exact ha) hc, hfr, hD, fun fuse hf => ?_, ?_⟩
  · by_cases he : errL n rows = 0
    · cases ho : m.off with
      | true =>
        obtain ⟨rfl, _, _⟩ := hBB he ho
        simp [storeOk, he]
      | false =>
        rcases hC he ho with ⟨rfl, _⟩ | ⟨rfl, _, ho3⟩
        · simp [storeOk, he]
        · cases fuse with
          | true => simp [storeOk, he, ho3]
          | false =>
            have := (hD ho (hf rfl).2).1
            rw [ho3] at this
            cases this
    · obtain ⟨rfl, _⟩ := hA he
      simp [storeOk, he]
  · by_cases he : errL n rows = 0
    · cases ho : m.off with
      | true =>
        obtain ⟨rfl, hr, _⟩ := hBB he ho
        simp [storeK, he, hr]
      | false =>
        rcases hC he ho with ⟨rfl, hr⟩ | ⟨rfl, hr, ho3⟩
        · simp [storeK, he, hr]
        · simp [storeK, he, hr]
    · obtain ⟨rfl, hr, _⟩ := hA he
      simp [storeK, he, hr]
theorem gappendS {w0 w : World} {bj bm : Nat} {vm v : Value} {m : Mem} {s : JS} {FR : Nat → Prop} {ws : Nat → Nat} {n c : Nat} {xs : List Nat} {G : Nat → Prop} (h : JG w0 w bj bm vm m s FR ws n c) (tb : E.Tab w0) (h16 : 16 ≤ n) (hc : c ≤ 900000)
    (hr : Rd w G v xs) (hG : ∀ k, G k → ¬ Mut bj bm vm FR k) (hu : xs.length ≤ 1000) (hx : ∀ x ∈ xs, x < 4294967296) :
    Calls Tryd.prog 17 #[.pointer (some ⟨bj, 0, none⟩), v] w (SPost w0 w bj bm vm m s FR ws n c (s.rows ++ [xs])) :=
  (pappend_any h.jj.pj h.jj.ok (h.tab tb) (by have := h.cnt; omega) (by rw [h.jj.len]; exact h16) h.near.weak (by rw [h.jj.len]; exact h.jj.lay) hr (fun k hk => ⟨fun e => hG k hk (.inl e), fun e => hG k hk (.inr (.inl e)), fun e => hG k hk (.inr (.inr e))⟩) hu hx).mono fun _ _ hp => hp.step h
theorem greplaceS {w0 w : World} {bj bm : Nat} {vm v : Value} {m : Mem} {s : JS} {FR : Nat → Prop} {ws : Nat → Nat} {n c : Nat} {rows : List (List Nat)} {G : Nat → Prop} (h : JG w0 w bj bm vm m s FR ws n c) (tb : E.Tab w0) (h16 : 16 ≤ n) (hc : c ≤ 900000)
    (hr : RR w G v rows) (hG : ∀ k, G k → ¬ Mut bj bm vm FR k) (hu : usedL rows ≤ 1000) (hx : ∀ r ∈ rows, ∀ x ∈ r, x < 4294967296) :
    Calls Tryd.prog 20 #[.pointer (some ⟨bj, 0, none⟩), v] w (SPost w0 w bj bm vm m s FR ws n c rows) :=
  (preplace_any h.jj.pj h.jj.ok (h.tab tb) (by have := h.cnt; omega) (by rw [h.jj.len]; exact h16) h.near.weak (by rw [h.jj.len]; exact h.jj.lay) hr (fun k hk => ⟨fun e => hG k hk (.inl e), fun e => hG k hk (.inr (.inl e))⟩) hu hx).mono fun _ _ hp => hp.step h
theorem greset {w0 w : World} {bj bm : Nat} {vm : Value} {m : Mem} {s : JS} {FR : Nat → Prop} {ws : Nat → Nat} {n c : Nat} (h : JG w0 w bj bm vm m s FR ws n c) :
    Calls Tryd.prog 22 #[.pointer (some ⟨bm, 0, none⟩)] w fun r w' => r = .returned (.tuple #[]) ∧ JG w0 w' bj bm vm m.reset s FR ws n c ∧ Save (FT bm vm) w w' :=
  (preset_any h.jj.pj.pm).mono fun _ _ ⟨hr, hp, hs⟩ => ⟨hr, h.mem hp hs (reset_ok h.jj.ok) rfl (h.near.as (reset_code m)) rfl, hs⟩
theorem visits_keep (m : Mem) : ∀ k, (m.visits k).off = m.off ∧ (m.visits k).left = m.left ∧ (m.visits k).count = m.count := fun k => ⟨visits_off m k, visits_left m k, visits_count m k⟩
/-- The program's and the law's view of the words that were flipped. -/
structure Fl (w : World) (bf : Nat) (m : Mem) (ws : Nat → Nat) (fs : List Bool) (n : Nat) : Prop where
  blk : w.heap[bf]? = some (.cells (fs.map Value.bool).toArray 4 (0, 0))
  len : fs.length = n
  clean : ∀ a, fs[a]? = some false → Clean m ws a
/-- A scrub of all words. -/
theorem gscrub {w0 w : World} {bj bm : Nat} {vm : Value} {m : Mem} {s : JS} {FR : Nat → Prop} {ws : Nat → Nat} {n c : Nat} (h : JG w0 w bj bm vm m s FR ws n c) (tb : E.Tab w0) :
    Calls Tryd.prog 25 #[.pointer (some ⟨bm, 0, none⟩), .int .i64 (n : Nat)] w fun r w' => ∃ v m', r = .returned v ∧ JG w0 w' bj bm vm m' s FR ws n c ∧ Save (FT bm vm) w w' ∧ m'.off = m.off ∧ m'.left = m.left ∧ (m.off = true → m' = m) ∧ (m.off = false → ∀ a, a < n → Clean m' ws a) :=
  (pscrub_any h.jj.pj.pm h.jj.ok (h.tab tb) (n : Nat)).mono fun r w' ⟨hr, hp, hs⟩ => by
    have hk := visits_keep m (m.turns (n : Nat))
    cases ho : m.off with
    | true =>
      have e := scrub_off ho (n : Nat)
      rw [e] at hp
      exact ⟨_, m, hr, h.mem hp hs h.jj.ok rfl h.near rfl, hs, ho, rfl, fun _ => rfl, fun e => by cases e⟩
    | false =>
      obtain ⟨h1, h2, h3⟩ := h.near.scrub h.jj.ok ho (n := (n : Nat)) (by rw [h.jj.len])
      exact ⟨_, _, hr, h.mem hp hs (scrub_ok h.jj.ok _) h3 h1 hk.2.2, hs, hk.1.trans ho, hk.2.1, (fun e => by cases e), fun _ a ha => h2 a (by rw [h.jj.len]; exact ha)⟩
theorem errL_none {n : Nat} (h : 16 ≤ n) : errL n [] = 0 := errL_intro (fun r hr => by simp at hr) (by rw [usedL_nil]; omega)
/-- A round's state: the journal, the records, the words that were flipped, the power. -/
structure RS (w0 w : World) (bj bm bf : Nat) (vm vnow : Value) (m : Mem) (s : JS) (FR : Nat → Prop) (ws : Nat → Nat) (fs : List Bool) (fz : Bool) (n c : Nat) : Prop where
  jg : JG w0 w bj bm vm m s FR ws n c
  now : RR w (fun k => ¬ Mut bj bm vm FR k ∧ k ≠ bf) vnow s.rows
  fl : Fl w bf m ws fs n
  ap : ¬ Mut bj bm vm FR bf ∧ ¬ FR bf
  lo : w0.heap.size ≤ bf
  pw : fz = false → m.off = false ∧ m.left = 0
theorem RS.bf_lt {w0 w : World} {bj bm bf : Nat} {vm vnow : Value} {m : Mem} {s : JS} {FR : Nat → Prop} {ws : Nat → Nat} {fs : List Bool} {fz : Bool} {n c : Nat} (h : RS w0 w bj bm bf vm vnow m s FR ws fs fz n c) : bf < w.heap.size := blk_lt h.fl.blk
theorem RS.keep {w0 w w' : World} {bj bm bf : Nat} {vm vnow : Value} {m : Mem} {s : JS} {FR : Nat → Prop} {ws : Nat → Nat} {fs : List Bool} {fz : Bool} {n c : Nat} (h : RS w0 w bj bm bf vm vnow m s FR ws fs fz n c) (hb : Below w.heap.size w w') : RS w0 w' bj bm bf vm vnow m s FR ws fs fz n c :=
  ⟨h.jg.keep hb, h.now.keep hb, ⟨(hb.block _ h.bf_lt).trans h.fl.blk, h.fl.len, h.fl.clean⟩, h.ap, h.lo, h.pw⟩
theorem RS.drewN {w0 w : World} {bj bm bf : Nat} {vm vnow : Value} {m : Mem} {s : JS} {FR : Nat → Prop} {ws : Nat → Nat} {fs : List Bool} {fz : Bool} {n c : Nat} (h : RS w0 w bj bm bf vm vnow m s FR ws fs fz n c) (q : Nat) : RS w0 (w.drewN q) bj bm bf vm vnow m s FR ws fs fz n c := h.keep (below_drewN (Below.refl _ _) q)
theorem RS.more {w0 w : World} {bj bm bf : Nat} {vm vnow : Value} {m : Mem} {s : JS} {FR : Nat → Prop} {ws : Nat → Nat} {fs : List Bool} {fz : Bool} {n c c' : Nat} (h : RS w0 w bj bm bf vm vnow m s FR ws fs fz n c) (hc : c ≤ c') : RS w0 w bj bm bf vm vnow m s FR ws fs fz n c' :=
  ⟨⟨h.jg.jj, h.jg.near, h.jg.below, Nat.le_trans h.jg.cnt hc⟩, h.now, h.fl, h.ap, h.lo, h.pw⟩
theorem made_bools (w : World) (n : Nat) : (w.alloc (.cells (madeCells #[.bool false] n) 4)).heap[w.heap.size]? = some (.cells ((List.replicate n false).map Value.bool).toArray 4 (0, 0)) := by
  have h := heap_alloc_new w (.cells (madeCells #[.bool false] n) 4)
  rw [h]
  have e : madeCells #[Value.bool false] n = ((List.replicate n false).map Value.bool).toArray := by
    have h1 : madeCells #[Value.bool false] n = (List.replicate n (Value.bool false)).toArray := by
      apply Array.ext'
      apply List.ext_getElem
      · simp [madeCells]
      · intro i h1 h2
        simp [madeCells, Nat.mod_one]
    rw [h1, List.map_replicate]
  rw [e]
theorem RS.start {w0 w : World} {bj bm : Nat} {vm : Value} {m : Mem} {s : JS} {FR : Nat → Prop} {ws : Nat → Nat} {n c : Nat} (hg : JG w0 w bj bm vm m s FR ws n c) (hr : s.rows = []) (ho : m.off = false) (hl : m.left = 0) (hcl : ∀ a, a < n → Clean m ws a) :
    RS w0 (w.alloc (.cells (madeCells #[.bool false] n) 4)) bj bm w.heap.size vm (.slice none 0 0) m s FR ws (List.replicate n false) false n c := by
  refine ⟨hg.keep ((Below.refl _ _).alloc (Nat.le_refl _) _), by rw [hr]; exact RR.nil, ⟨made_bools w n, List.length_replicate, fun a h => ?_⟩, ⟨fun e => by have := hg.mut_lt _ e; omega, fun e => by have := hg.jj.pj.lt.2 _ e; omega⟩, hg.below.size, fun _ => ⟨ho, hl⟩⟩
  have := (List.getElem?_eq_some_iff.1 h).1
  rw [List.length_replicate] at this
  exact hcl a this
theorem RS.made {w0 w : World} {bj bm bf : Nat} {vm vnow : Value} {m : Mem} {s : JS} {FR : Nat → Prop} {ws : Nat → Nat} {fs : List Bool} {fz : Bool} {n c : Nat} (h : RS w0 w bj bm bf vm vnow m s FR ws fs fz n c) (hcl : ∀ a, a < n → Clean m ws a) :
    RS w0 (w.alloc (.cells (madeCells #[.bool false] n) 4)) bj bm w.heap.size vm vnow m s FR ws (List.replicate n false) fz n c := by
  have hb : Below w.heap.size w (w.alloc (.cells (madeCells #[.bool false] n) 4)) := (Below.refl _ _).alloc (Nat.le_refl _) _
  refine ⟨h.jg.keep hb, (h.now.mono fun k hk hg => ⟨hg.1, by omega⟩).keep hb, ⟨made_bools w n, List.length_replicate, fun a h => ?_⟩, ⟨fun e => by have := h.jg.mut_lt _ e; omega, fun e => by have := h.jg.jj.pj.lt.2 _ e; omega⟩, h.jg.below.size, h.pw⟩
  have := (List.getElem?_eq_some_iff.1 h).1
  rw [List.length_replicate] at this
  exact hcl a this
/-- The memory has been changed by itself. -/
theorem RS.mem {w0 w w' : World} {bj bm bf : Nat} {vm vnow : Value} {m m' : Mem} {s : JS} {FR : Nat → Prop} {ws : Nat → Nat} {fs : List Bool} {fz fz' : Bool} {n c : Nat} (h : RS w0 w bj bm bf vm vnow m s FR ws fs fz n c) (hg : JG w0 w' bj bm vm m' s FR ws n c) (hs : Save (FT bm vm) w w') (hc : ∀ a, a < n → Clean m ws a → Clean m' ws a) (hp : fz' = false → m'.off = false ∧ m'.left = 0) :
    RS w0 w' bj bm bf vm vnow m' s FR ws fs fz' n c := by
  refine ⟨hg, h.now.save hs fun k hk e => hk.1 (.inr (.inl e)), ⟨(hs.block _ h.bf_lt fun e => h.ap.1 (.inr (.inl e))).trans h.fl.blk, h.fl.len, fun a ha => hc a ?_ (h.fl.clean a ha)⟩, h.ap, h.lo, hp⟩
  have := (List.getElem?_eq_some_iff.1 ha).1
  rw [h.fl.len] at this
  exact this
/-- A flip of a word that was not flipped, which is then noted. -/
theorem RS.flip {w0 w w' : World} {bj bm bf : Nat} {vm vnow : Value} {m m' : Mem} {s : JS} {FR : Nat → Prop} {ws : Nat → Nat} {fs : List Bool} {fz : Bool} {n c a : Nat} (h : RS w0 w bj bm bf vm vnow m s FR ws fs fz n c) (hg : JG w0 w' bj bm vm m' s FR ws n c) (hs : Save (FT bm vm) w w')
    (hc : ∀ j, j ≠ a → Clean m ws j → Clean m' ws j) (ho : m'.off = m.off) (hl : m'.left = m.left) : RS w0 (w'.setCell ⟨bf, a, none⟩ (.bool true)) bj bm bf vm vnow m' s FR ws (fs.set a true) fz n c := by
  have hblk : w'.heap[bf]? = some (.cells (fs.map Value.bool).toArray 4 (0, 0)) := (hs.block _ h.bf_lt fun e => h.ap.1 (.inr (.inl e))).trans h.fl.blk
  have hsv : Save (fun k => k = bf) w' (w'.setCell ⟨bf, a, none⟩ (.bool true)) := Save.setCell (F := fun k => k = bf) (Save.refl _ _) (p := ⟨bf, a, none⟩) rfl _
  refine ⟨hg.side hsv fun k hk => ?_, (h.now.save hs fun k hk e => hk.1 (.inr (.inl e))).save hsv fun k hk e => hk.2 e, ⟨?_, by rw [List.length_set]; exact h.fl.len, fun j hj => ?_⟩, h.ap, h.lo, fun e => by rw [ho, hl]; exact h.pw e⟩
  · subst hk
    exact ⟨h.ap.1, h.lo⟩
  · rw [blk_set hblk a, List.setIfInBounds_toArray, List.map_set]
  · have hja : j ≠ a := fun e => by
      subst e
      rw [List.getElem?_set_self'] at hj
      cases hf : fs[j]? <;> rw [hf] at hj <;> simp at hj
    rw [List.getElem?_set_ne (fun e => hja e.symm)] at hj
    exact hc j hja (h.fl.clean j hj)
/-- The records have been stored, or not. -/
theorem Mut.step {w : World} {bj bm : Nat} {vm : Value} {FR FR' : Nat → Prop} (hfr : ∀ k, FR' k → FR k ∨ w.heap.size ≤ k) {k : Nat} (hk : k < w.heap.size) (h : ¬ Mut bj bm vm FR k) : ¬ Mut bj bm vm FR' k := fun e => by
  rcases e with e | e | e
  · exact h (.inl e)
  · exact h (.inr (.inl e))
  · rcases hfr k e with e | e
    · exact h (.inr (.inr e))
    · omega
theorem RS.store {w0 w w' : World} {bj bm bf : Nat} {vm vnow vnext : Value} {m : Mem} {s : JS} {FR : Nat → Prop} {ws : Nat → Nat} {fs : List Bool} {fz : Bool} {n c : Nat} {rows : List (List Nat)} {r : Ending} (h : RS w0 w bj bm bf vm vnow m s FR ws fs fz n c) (hn : RR w (fun k => ¬ Mut bj bm vm FR k ∧ k ≠ bf) vnext rows) (hp : SPost w0 w bj bm vm m s FR ws n c rows r w') :
    ∃ e m' s' FR' ws', r = .returned (.int .i64 e) ∧ RR w' (fun k => ¬ Mut bj bm vm FR' k ∧ k ≠ bf) vnext rows ∧ storeOk (errL n rows) (!m.off) fz m'.off e = true ∧ RS w0 w' bj bm bf vm (if storeK (errL n rows) (!m.off) e = true then vnext else vnow) m' s' FR' ws' fs fz n (c + 20000) := by
  obtain ⟨e, m', s', FR', ws', rfl, hg, hs, hc, hfr, hpw, hok, hr⟩ := hp
  have hrr : ∀ {v : Value} {rs : List (List Nat)}, RR w (fun k => ¬ Mut bj bm vm FR k ∧ k ≠ bf) v rs → RR w' (fun k => ¬ Mut bj bm vm FR' k ∧ k ≠ bf) v rs := fun hv =>
    ((hv.mono (G' := fun k => k < w.heap.size ∧ ¬ Mut bj bm vm FR k ∧ k ≠ bf) fun k hk hg => ⟨hk, hg⟩).save hs fun k hk e => hk.2.1 e).mono fun k _ hg => ⟨Mut.step hfr hg.1 hg.2.1, hg.2.2⟩
  have h2 := hrr hn
  refine ⟨e, m', s', FR', ws', rfl, h2, hok fz h.pw, hg, ?_, ⟨(hs.block _ h.bf_lt h.ap.1).trans h.fl.blk, h.fl.len, fun a ha => hc a ?_ (h.fl.clean a ha)⟩, ⟨Mut.step hfr h.bf_lt h.ap.1, fun hk => ?_⟩, h.lo, fun e => hpw (h.pw e).1 (h.pw e).2⟩
  · rw [hr]
    split
    · exact h2
    · exact hrr h.now
  · have := (List.getElem?_eq_some_iff.1 ha).1
    rw [h.fl.len] at this
    exact this
  · rcases hfr _ hk with h1 | h1
    · exact h.ap.2 h1
    · have := h.bf_lt; omega
/-- The journal has been opened anew. -/
theorem RS.open {w0 w w' : World} {bj bm bf : Nat} {vm vnow : Value} {m : Mem} {s : JS} {FR : Nat → Prop} {ws : Nat → Nat} {fs : List Bool} {fz : Bool} {n c : Nat} {r : Ending} (h : RS w0 w bj bm bf vm vnow m s FR ws fs fz n c) (hp : OpenPost w bm vm m ws s r w') :
    ∃ bk s' FK, r = .returned (.tuple #[.pointer (some ⟨bk, 0, none⟩), .int .i64 0]) ∧ RS w0 w' bk bm bf vm vnow m s' FK ws fs fz n c := by
  obtain ⟨p, e, rfl, hb, hc⟩ := hp
  rcases hc with ⟨_, hn⟩ | ⟨rfl, bk, s', FK, rfl, hpj, hbk, hFK, hr, hlay⟩
  · exact absurd h.jg.near hn
  · rw [h.jg.jj.len] at hlay
    have hlt := h.bf_lt
    have hB := h.jg.below.size
    refine ⟨bk, s', FK, rfl, ⟨⟨hpj, h.jg.jj.ok, h.jg.jj.len, hlay, Nat.le_trans hB hbk, h.jg.jj.bm, fun k hk => Nat.le_trans hB (hFK k hk)⟩, h.jg.near, h.jg.below.trans (hb.mono hB), h.jg.cnt⟩, ?_, ⟨(hb.block _ hlt).trans h.fl.blk, h.fl.len, h.fl.clean⟩, ⟨fun e => ?_, fun e => by have := hFK _ e; omega⟩, h.lo, h.pw⟩
    · rw [hr]
      exact (h.now.mono fun k hk hg => ⟨fun e => e.elim (fun e => by omega) fun e => e.elim (fun e => hg.1 (.inr (.inl e))) fun e => by have := hFK _ e; omega, hg.2⟩).keep hb
    · rcases e with e | e | e
      · omega
      · exact h.ap.1 (.inr (.inl e))
      · have := hFK _ e; omega
/-- A copy of an operation. -/
def opObj (kd xn xa : Int) (xf : Nat) (v : Value) : Obj := .cells #[.int .i64 kd, .int .i64 xn, .int .i64 xa, .int .u32 (xf : Nat), v] 33
theorem op_cells (w : World) (kd xn xa : Int) (xf : Nat) (v : Value) : (w.alloc (opObj kd xn xa xf v)).cell? ⟨w.heap.size, 0, none⟩ = some (.int .i64 kd) ∧ (w.alloc (opObj kd xn xa xf v)).cell? ⟨w.heap.size, 1, none⟩ = some (.int .i64 xn) ∧
    (w.alloc (opObj kd xn xa xf v)).cell? ⟨w.heap.size, 2, none⟩ = some (.int .i64 xa) ∧ (w.alloc (opObj kd xn xa xf v)).cell? ⟨w.heap.size, 3, none⟩ = some (.int .u32 (xf : Nat)) ∧ (w.alloc (opObj kd xn xa xf v)).cell? ⟨w.heap.size, 4, none⟩ = some v := by
  have h : (w.alloc (opObj kd xn xa xf v)).heap[w.heap.size]? = some (.cells #[.int .i64 kd, .int .i64 xn, .int .i64 xa, .int .u32 (xf : Nat), v] 33 (0, 0)) := heap_alloc_new w _
  exact ⟨blk_cell h 0, blk_cell h 1, blk_cell h 2, blk_cell h 3, blk_cell h 4⟩
/-- The objects of a state are old. -/
theorem RS.lt {w0 w : World} {bj bm bf : Nat} {vm vnow : Value} {m : Mem} {s : JS} {FR : Nat → Prop} {ws : Nat → Nat} {fs : List Bool} {fz : Bool} {n c : Nat} (h : RS w0 w bj bm bf vm vnow m s FR ws fs fz n c) : ∀ k, w.heap.size ≤ k → ¬ Mut bj bm vm FR k ∧ k ≠ bf := fun k hk => ⟨fun e => by have := h.jg.mut_lt k e; omega, by have := h.bf_lt; omega⟩
theorem RS.used {w0 w : World} {bj bm bf : Nat} {vm vnow : Value} {m : Mem} {s : JS} {FR : Nat → Prop} {ws : Nat → Nat} {fs : List Bool} {fz : Bool} {n c : Nat} (h : RS w0 w bj bm bf vm vnow m s FR ws fs fz n c) (hn : n ≤ 1000) : usedL s.rows ≤ 500 := errL_small hn h.jg.jj.lay.ok
/-- The law's call of With. -/
theorem RS.with {w0 w w1 : World} {bj bm bf : Nat} {vm vnow v : Value} {m : Mem} {s : JS} {FR : Nat → Prop} {ws : Nat → Nat} {fs : List Bool} {fz : Bool} {n c : Nat} {xs : List Nat} (h : RS w0 w bj bm bf vm vnow m s FR ws fs fz n c) (hn : n ≤ 1000) (hb : Below w.heap.size w w1) (hx : Rd w1 (fun k => w.heap.size ≤ k) v xs) :
    Calls Tryd.prog 16 #[vnow, v] w1 fun r w' => ∃ v', r = .returned v' ∧ RR w' (fun k => ¬ Mut bj bm vm FR k ∧ k ≠ bf) v' (s.rows ++ [xs]) ∧ Below w1.heap.size w1 w' :=
  rwith_any (h.keep hb).now (Sl.mono hx fun k _ hk => h.lt k hk) (fun k hk => (h.keep hb).lt k hk) (by have := h.used hn; have := rows_le_used s.rows; omega)
end J
end Go.Proofs.YtnoohhpajoaaoaaDoor
