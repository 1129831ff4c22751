/-
  The landed package journal: store.
-/
import Derived.Test.YtnoohhpajoaaoaaDoorJP3
namespace Go.Proofs.YtnoohhpajoaaoaaDoor
open Go.RowKit
namespace J
open H R M
set_option linter.unusedVariables false
set_option maxRecDepth 100000
/-- What k writes of the words fl, from the word st on, leave. -/
structure SI (m mk : Mem) (ws wsk : Nat → Nat) (st k : Nat) (fl : List Nat) : Prop where
  len : mk.code.length = m.code.length
  next : mk.next = m.next
  count : mk.count ≤ m.count + k
  word : ∀ a, a < m.code.length → (mk.at a = m.at a ∧ wsk a = ws a) ∨ (mk.at a = E.enc (wsk a) ∧ wsk a < 4294967296)
  done : ∀ i x, i < k → fl[i]? = some x → wsk (st + i) = x
  rest : ∀ a, (a < st ∨ st + k ≤ a) → wsk a = ws a
  on : m.off = false → m.left = 0 → mk.off = false ∧ mk.left = 0
  zero : k = 0 → mk = m
  pos : 0 < k → m.off = false
theorem SI.start (m : Mem) (ws : Nat → Nat) (st : Nat) (fl : List Nat) : SI m m ws ws st 0 fl :=
  ⟨rfl, rfl, Nat.le_refl _, fun a _ => .inl ⟨rfl, rfl⟩, fun i x hi => by omega, fun a _ => rfl, fun h1 h2 => ⟨h1, h2⟩, fun _ => rfl, fun h => by omega⟩
theorem SI.isOn {m mk : Mem} {ws wsk : Nat → Nat} {st k : Nat} {fl : List Nat} (h : SI m mk ws wsk st k fl) (ho : mk.off = false) : m.off = false := by
  by_cases h0 : k = 0
  · rw [h.zero h0] at ho; exact ho
  · exact h.pos (by omega)
theorem SI.wrote {m mk : Mem} {ws wsk : Nat → Nat} {st k : Nat} {fl : List Nat} (h : SI m mk ws wsk st k fl) (hk : k ≤ 20000) : Wrote m mk ws wsk :=
  ⟨h.len, h.next, by have := h.count; omega, h.word⟩
theorem SI.step {m mk : Mem} {ws wsk : Nat → Nat} {st k x : Nat} {fl : List Nat} (h : SI m mk ws wsk st k fl) (ha : st + k < m.code.length) (ho : mk.off = false) (hx : x < 4294967296) (hf : fl[k]? = some x) : SI m (mk.write (st + k : Nat) x) ws (upd wsk (st + k) x) st (k + 1) fl := by
  have hal : st + k < mk.code.length := by rw [h.len]; exact ha
  refine ⟨(len_write _ _ _).trans h.len, (write_next _ _ _).trans h.next, by rw [write_count hal ho]; have := h.count; omega, fun a hla => ?_, fun i y hi hy => ?_, fun a hla => ?_, fun h1 h2 => ?_, fun e => by omega, fun _ => h.isOn ho⟩
  · rw [at_write hal ho]
    by_cases e : a = st + k
    · right; rw [if_pos e, e, upd_same]; exact ⟨rfl, hx⟩
    · rw [if_neg e, upd_other _ _ e]; exact h.word a hla
  · by_cases e : i = k
    · subst e
      rw [upd_same]
      rw [hf] at hy
      injection hy
    · rw [upd_other _ _ (by omega)]
      exact h.done i y (by omega) hy
  · rw [upd_other _ _ (by omega)]
    exact h.rest a (by omega)
  · obtain ⟨h3, h4⟩ := h.on h1 h2
    exact write_on _ _ h3 h4
/-- The mark is written. -/
theorem SI.mark {m mk : Mem} {ws wsk : Nat → Nat} {st k x : Nat} {fl : List Nat} (h : SI m mk ws wsk st k fl) (hk : k ≤ 10000) (ha : 0 < m.code.length) (ho : mk.off = false) (hx : x < 4294967296) : Wrote m (mk.write (0 : Nat) x) ws (upd wsk 0 x) := by
  have hal : 0 < mk.code.length := by rw [h.len]; exact ha
  refine ⟨(len_write _ _ _).trans h.len, (write_next _ _ _).trans h.next, by rw [write_count hal ho]; have := h.count; omega, fun a hla => ?_⟩
  rw [at_write hal ho]
  by_cases e : a = 0
  · right; rw [if_pos e, e, upd_same]; exact ⟨rfl, hx⟩
  · rw [if_neg e, upd_other _ _ e]; exact h.word a hla
theorem area_fits {n : Nat} {rows : List (List Nat)} (h : errL n rows = 0) : (flatL rows).length ≤ n / 2 - 4 ∧ 8 ≤ n := by
  have := errL_used h
  rw [flatL_len]
  omega
theorem start_pos (n a : Nat) : 1 ≤ startN n a := by unfold startN; omega
/-- While the other area is written, the records are the elder ones. -/
theorem SI.lay {m mk : Mem} {ws wsk : Nat → Nat} {k o : Nat} {fl : List Nat} {s : JS} (ho : o = 1 - s.a) (h : SI m mk ws wsk (startN m.code.length o) k fl) (hl : Lay m.code.length ws s) (hk : k ≤ m.code.length / 2 - 4) : Lay m.code.length wsk s := by
  have hst := start_pos m.code.length o
  refine ⟨hl.ok, hl.area, (h.rest 0 (by omega)).trans hl.mark, fun i x hi => ?_⟩
  have hil := (List.getElem?_eq_some_iff.1 hi).1
  have hfit := (area_fits hl.ok).1
  rw [h.rest _ ?_]
  · exact hl.word i x hi
  · have ha := hl.area
    rcases Nat.le_one_iff_eq_zero_or_eq_one.1 ha with e | e
    · rw [e] at ho ⊢
      subst ho
      unfold startN
      omega
    · rw [e] at ho ⊢
      subst ho
      unfold startN
      omega
/-- Behind the mark, the records are the new ones. -/
theorem SI.laid {m mk : Mem} {ws wsk : Nat → Nat} {o : Nat} {rows : List (List Nat)} {v : Value} (ho : o ≤ 1) (he : errL m.code.length rows = 0) (h : SI m mk ws wsk (startN m.code.length o) (flatL rows).length (flatL rows)) : Lay m.code.length (upd wsk 0 (markN o (usedL rows))) ⟨rows, o, v⟩ := by
  refine ⟨he, ho, upd_same _ _ _, fun i x hi => ?_⟩
  have hst := start_pos m.code.length o
  rw [upd_other _ _ (by show startN m.code.length o + i ≠ 0; omega)]
  exact h.done i x (List.getElem?_eq_some_iff.1 hi).1 hi
/-- What storing rows leaves; wv: the slice that holds their words. -/
def StoredPost (w : World) (bj bm : Nat) (vm : Value) (m : Mem) (s : JS) (FR : Nat → Prop) (ws : Nat → Nat) (rows : List (List Nat)) (wv : Value) (r : Ending) (w' : World) : Prop :=
  ∃ e m' s' FR' ws', r = .returned (.int .i64 e) ∧ PJ w' bj bm vm m' s' FR' ∧ Save (fun k => k = bj ∨ FT bm vm k) w w' ∧ (∀ k, FR' k → FR k ∨ wv.ownBlock = some k) ∧ Wrote m m' ws ws' ∧ Lay m.code.length ws' s' ∧ m'.ok ∧
    (m.off = true → e = 21 ∧ s'.rows = s.rows ∧ m'.off = true) ∧ (m.off = false → (e = 0 ∧ s'.rows = rows) ∨ (e = 21 ∧ s'.rows = s.rows ∧ m'.off = true)) ∧ (m.off = false → m.left = 0 → m'.off = false ∧ m'.left = 0)
theorem writeE_off {m : Mem} {a : Nat} (ha : a < m.code.length) (ho : m.off = true) : m.writeE a = 21 := by
  unfold Mem.writeE Mem.has
  rw [if_pos (by simpa using ha), if_pos ho]
theorem write_off {m : Mem} (a : Int) (x : Nat) (ho : m.off = true) : m.write a x = m := by
  unfold Mem.write
  rw [if_neg (by simp [ho])]
/-- A write did not come about. -/
theorem StoredPost.fail {w w' : World} {bj bm st k o : Nat} {vm wv : Value} {m mk : Mem} {s : JS} {FR : Nat → Prop} {ws wsk : Nat → Nat} {rows : List (List Nat)} (h : PJ w bj bm vm m s FR) (hl : Lay m.code.length ws s) (ho : o = 1 - s.a) (hst : startN m.code.length o = st)
    (hsi : SI m mk ws wsk st k (flatL rows)) (hk : k ≤ m.code.length / 2 - 4) (hmost : m.code.length ≤ 4096) (hpm : PM w' bm vm mk) (hok : mk.ok) (hs : Save (FT bm vm) w w') (hof : mk.off = true) : StoredPost w bj bm vm m s FR ws rows wv (.returned (.int .i64 21)) w' := by
  subst hst
  refine ⟨21, mk, s, FR, wsk, rfl, h.mem hpm hs hsi.len, hs.more fun k hk => .inr hk, fun k hk => .inl hk, hsi.wrote (by omega), hsi.lay ho hl hk, hok, fun _ => ⟨rfl, rfl, hof⟩, fun _ => .inr ⟨rfl, rfl, hof⟩, fun h1 h2 => ?_⟩
  have := hsi.on h1 h2
  exact ⟨(by have h3 := this.1; rw [hof] at h3; cases h3), this.2⟩
/-- All writes came about. -/
theorem StoredPost.done {w w1 : World} {bj bm st o : Nat} {vm wv : Value} {m mk : Mem} {s : JS} {FR : Nat → Prop} {ws wsk : Nat → Nat} {rows : List (List Nat)} (h : PJ w bj bm vm m s FR) (ho : o = 1 - s.a) (hst : startN m.code.length o = st)
    (he : errL m.code.length rows = 0) (hx : ∀ r ∈ rows, ∀ x ∈ r, x < 4294967296) (hown : w.ownsRow 0 30 1 wv (flatL rows).length (w32 (flatL rows))) (hwv : ∀ k, wv.ownBlock = some k → k ≠ bj ∧ ¬ FT bm vm k ∧ k ≠ 0)
    (hsi : SI m mk ws wsk st (flatL rows).length (flatL rows)) (hmost : m.code.length ≤ 4096) (hpm : PM w1 bm vm (mk.write (0 : Nat) (markN o (usedL rows)))) (hok : mk.ok) (hs : Save (FT bm vm) w w1) (hof : mk.off = false) :
    StoredPost w bj bm vm m s FR ws rows wv (.returned (.int .i64 0)) ((w1.setCell ⟨bj, 1, none⟩ (.int .i64 (o : Nat))).setCell ⟨bj, 2, none⟩ wv) := by
  subst hst
  have hfit := area_fits he
  have ho1 : o ≤ 1 := by omega
  have hmk : markN o (usedL rows) < 4294967296 := by
    have := flatL_len rows
    unfold markN
    omega
  have hb1 := (hs.block bj h.lt.1 h.off).trans h.blk
  have hwr := hsi.mark (by omega) (by omega) hof hmk
  have hpm2 : PM ((w1.setCell ⟨bj, 1, none⟩ (.int .i64 (o : Nat))).setCell ⟨bj, 2, none⟩ wv) bm vm (mk.write (0 : Nat) (markN o (usedL rows))) := (hpm.aside h.off 1 _).aside h.off 2 _
  have hbl : wv.ownBlock ≠ some bj := fun e => (hwv bj e).1 rfl
  have hown1 : w1.ownsRow 0 30 1 wv (flatL rows).length (w32 (flatL rows)) := own_as hown fun k hk => hs.block k (own_block hown k hk) (hwv k hk).2.1
  have hs2 : Save (fun k => k = bj ∨ FT bm vm k) w ((w1.setCell ⟨bj, 1, none⟩ (.int .i64 (o : Nat))).setCell ⟨bj, 2, none⟩ wv) := ((hs.more fun k hk => .inr hk).setCell (p := ⟨bj, 1, none⟩) (.inl rfl) _).setCell (p := ⟨bj, 2, none⟩) (.inl rfl) _
  refine ⟨0, _, ⟨rows, o, wv⟩, fun k => wv.ownBlock = some k, _, rfl, ⟨hpm2, ?_, own_setoff (own_setoff hown1 hbl) hbl, fun k hk => hk, fun k hk => ⟨Nat.lt_of_lt_of_le (own_block hown k hk) hs2.size, (hwv k hk).1, (hwv k hk).2.1⟩, h.off, by rw [hwr.len]; exact he, hx, ho1, fun e => (hwv _ e).2.2 rfl⟩, hs2, fun k hk => .inr hk, hwr, hsi.laid ho1 he, write_ok hok _ hmk, fun h1 => ?_, fun _ => .inl ⟨rfl, rfl⟩, fun h1 h2 => ?_⟩
  · have := blk_set (blk_set hb1 1 (.int .i64 (o : Nat))) 2 wv
    simpa using this
  · have := hsi.isOn hof
    rw [h1] at this
    cases this
  · obtain ⟨h3, h4⟩ := hsi.on h1 h2
    exact write_on _ _ h3 h4
set_option maxHeartbeats 4000000 in
theorem pstore_any {w : World} {bj bm : Nat} {vm wv : Value} {m : Mem} {s : JS} {FR : Nat → Prop} {ws : Nat → Nat} {rows : List (List Nat)} (h : PJ w bj bm vm m s FR) (hm : m.ok) (tb : E.Tab w) (hc : m.count ≤ 900000) (hl : Lay m.code.length ws s)
    (he : errL m.code.length rows = 0) (hx : ∀ r ∈ rows, ∀ x ∈ r, x < 4294967296) (hown : w.ownsRow 0 30 1 wv (flatL rows).length (w32 (flatL rows))) (hwv : ∀ k, wv.ownBlock = some k → k ≠ bj ∧ ¬ FT bm vm k ∧ k ≠ 0) :
    Calls Tryd.prog 37 #[.pointer (some ⟨bj, 0, none⟩), wv] w (StoredPost w bj bm vm m s FR ws rows wv) := by
  obtain ⟨A, c, rfl⟩ := own_shape hown
  obtain ⟨n, hn⟩ : ∃ n, n = m.code.length := ⟨_, rfl⟩
  have hfit := area_fits he
  have hmost := hm.most
  have HLT := Lib.hid (flatL_lt (errL_long he) hx)
  have HK := Lib.hid h
  have HM := Lib.hid hm
  have HTB := Lib.hid tb
  have HOFF := Lib.hid (h.pm.tab_off hm tb)
  have HC := Lib.hid hc
  have HL := Lib.hid hl
  have HE := Lib.hid he
  have HX := Lib.hid hx
  have HO := Lib.hid hown
  have HWV := Lib.hid hwv
  have c1 := blk_cell h.blk 1
  simp only [List.getElem?_toArray, List.getElem?_cons_succ, List.getElem?_cons_zero] at c1
  obtain ⟨o, ho⟩ : ∃ o, o = 1 - s.a := ⟨_, rfl⟩
  have hoi : (1 : Int) - (s.a : Int) = (o : Int) := by have := h.area; omega
  have ho1 : o ≤ 1 := by omega
  have HOO := Lib.hid ho
  have hwo : IntKind.i64.wrap ((1 : Int) - (s.a : Int)) = (o : Int) := by rw [hoi, IntKind.wrap_i64]; omega
  obtain ⟨L, hL⟩ : ∃ L, (flatL rows).length = L := ⟨_, rfl⟩
  have HLL := Lib.hid hL
  rw [hL] at hfit HO HWV ⊢
  have hLb : L ≤ 2044 := by omega
  have HFIT := Lib.hid hfit
  clear h hm tb hc hl he hx hown hwv ho hL hfit hmost
  generalize (s.a : Int) = sa at *
  go_enter Tryd.func37, Tryd.ntmps37
  go_wp2_with fail
  obtain ⟨st, hst⟩ : ∃ st, startN n o = st := ⟨_, rfl⟩
  have HSTN := Lib.hid hst
  clear hst
  go_loopg [17] L (fun g i wr => ∃ (k : Nat) (mk : Mem) (wsk : Nat → Nat), k + g = L ∧ i = .int .i64 (k : Nat) ∧ PM wr bm vm mk ∧ mk.ok ∧ Save (FT bm vm) w wr ∧ SI m mk ws wsk st k (flatL rows))
  case atStart => exact ⟨0, m, ws, Nat.zero_add _, rfl, HK.out.pm, HM.out, Save.refl _ _, SI.start _ _ _ _⟩
  case round =>
    obtain ⟨k, mk, wsk, hg, rfl, hpm, hok, hs, hsi⟩ := hrel
    have HGG := Lib.hid hg
    have HPM := Lib.hid hpm
    have HOK := Lib.hid hok
    have HS := Lib.hid hs
    have HSI := Lib.hid hsi
    have hkl : k ≤ L := by omega
    have hblk : wr.heap[bj]? = some (.cells #[.pointer (some ⟨bm, 0, none⟩), .int .i64 (s.a : Nat), s.v] 73 (0, 0)) := (hs.block bj HK.out.lt.1 HK.out.off).trans HK.out.blk
    have HB := Lib.hid hblk
    have htb := M.tab_save HTB.out hs HOFF.out
    have HTW := Lib.hid htb
    have c0 := blk_cell hblk 0
    simp only [List.getElem?_toArray, List.getElem?_cons_zero] at c0
    have hn8 : Hid (8 ≤ n ∧ n ≤ 4096 ∧ mk.code.length = n) := Lib.hid ⟨by rw [hn]; exact HFIT.out.2, by rw [hn]; exact HM.out.most, hsi.len.trans hn.symm⟩
    clear hg hpm hok hs hsi hblk htb
    by_cases hlt : k < L
    · have hki : (k : Int) < (L : Int) := by omega
      obtain ⟨x, hxk⟩ : ∃ x, (flatL rows)[k]? = some x := ⟨_, List.getElem?_eq_getElem (by have := HLL.out; omega)⟩
      have hxl := HLT.out x (List.mem_of_getElem? hxk)
      have hrd : Rd wr (fun j => (Value.slice A L c).ownBlock = some j) (.slice A L c) (flatL rows) := Sl.save (own_Sl HO.out) HS.out fun j hj => (HWV.out j hj).2.1
      obtain ⟨ad, rfl, hcx⟩ := Rd.get hrd hxk
      have hstn : st + k < n := by
        have h1 := HFIT.out.1
        rw [← hn] at h1
        have h2 := hn8.out.1
        have h3 : o * (n / 2 - 4) ≤ 1 * (n / 2 - 4) := Nat.mul_le_mul_right _ ho1
        rw [← HSTN.out]
        unfold startN
        omega
      obtain ⟨p, hp⟩ : ∃ p, p = st + k := ⟨_, rfl⟩
      have hwst : IntKind.i64.wrap ((st : Int) + (k : Int)) = (p : Int) := by rw [IntKind.wrap_i64]; have := hn8.out.2.1; omega
      have HXK := Lib.hid (And.intro hxk (And.intro hxl (And.intro hstn hp)))
      have HST := Lib.hid (by have := pstart_any HPM.out.drew HOK.out (by rw [hn8.out.2.2]; exact hn8.out.1) (show wr.drew.heap[bj]? = _ from HB.out) ho1; rw [hn8.out.2.2, HSTN.out] at this; exact this)
      have hcb : bj < wr.heap.size := blk_lt HB.out
      have HSV : Hid (∀ W' : World, Save (FT bm vm) wr.drew W' → W'.cell? ⟨bj, 0, none⟩ = some (.pointer (some ⟨bm, 0, none⟩))) := Lib.hid (fun W' h3 => blk_cell ((h3.block bj hcb HK.out.off).trans (show wr.drew.heap[bj]? = _ from HB.out)) 0)
      have HCB := Lib.hid hcb
      clear hxk hxl hrd hcb hstn hp
      by_cases hof : mk.off = true
      · have HW := Lib.hid (by have := pwrite_any HPM.out.drew HOK.out (HTW.out.below HTW.out.pos (Below.refl _ _).drew) (by have := HSI.out.count; have := HC.out; omega) (p : Int) x HXK.out.2.1; rw [writeE_off (by rw [hn8.out.2.2, HXK.out.2.2.2]; exact HXK.out.2.2.1) hof] at this; exact this)
        go_wp2_with fail
        go_region_held3 (fun W => W.cell? ⟨bj, 0, none⟩ = some (.pointer (some ⟨bm, 0, none⟩))) (first | assumption | go_keep)
          ((first
            | (go_at_call 52; with_reducible refine HST.out.mono ?_; rintro r w2 ⟨rfl, rfl⟩)
            | (go_at_call 50; with_reducible refine HW.out.mono ?_; rintro r w3 ⟨rfl, hp3, hs3⟩; have s3 := HSV.out w3 hs3)))
        rw [write_off _ _ hof] at hp3
        have HF := Lib.hid (And.intro hp3 ((HS.out.drew).trans (show Save (FT bm vm) wr.drew w3 from hs3)))
        clear hp3 hs3 s3
        go_wp2_with fail
        go_ret
        exact StoredPost.fail HK.out HL.out HOO.out (by rw [← hn]; exact HSTN.out) HSI.out (Nat.le_trans hkl HFIT.out.1) HM.out.most HF.out.1 HOK.out HF.out.2 hof
      · have hof2 : mk.off = false := by simpa using hof
        have HW := Lib.hid (by have := pwrite_any HPM.out.drew HOK.out (HTW.out.below HTW.out.pos (Below.refl _ _).drew) (by have := HSI.out.count; have := HC.out; omega) (p : Int) x HXK.out.2.1; rw [writeE_ok (by rw [hn8.out.2.2, HXK.out.2.2.2]; exact HXK.out.2.2.1) hof2] at this; exact this)
        go_wp2_with fail
        go_region_held3 (fun W => W.cell? ⟨bj, 0, none⟩ = some (.pointer (some ⟨bm, 0, none⟩))) (first | assumption | go_keep)
          ((first
            | (go_at_call 52; with_reducible refine HST.out.mono ?_; rintro r w2 ⟨rfl, rfl⟩)
            | (go_at_call 50; with_reducible refine HW.out.mono ?_; rintro r w3 ⟨rfl, hp3, hs3⟩; have s3 := HSV.out w3 hs3)))
        have HF := Lib.hid (And.intro hp3 ((HS.out.drew).trans (show Save (FT bm vm) wr.drew w3 from hs3)))
        clear hp3 hs3 s3
        go_wp2_with fail
        go_roundg (gk - 1)
        case measure => have := HGG.out; omega
        case rel =>
          refine ⟨k + 1, mk.write (p : Nat) x, upd wsk p x, by have := HGG.out; omega, by go_num, HF.out.1, write_ok HOK.out _ HXK.out.2.1, HF.out.2, ?_⟩
          rw [HXK.out.2.2.2]
          exact HSI.out.step (by rw [← hn]; exact HXK.out.2.2.1) hof2 HXK.out.2.1 HXK.out.1
    · have hki : ¬ (k : Int) < (L : Int) := by omega
      obtain rfl : k = L := by omega
      have HMK := Lib.hid (fun W : World => pmark_any (a := o) (u := k) ho1 (by omega) W)
      have hmkl : markN o k < 4294967296 := by unfold markN; omega
      have hcb : bj < wr.heap.size := blk_lt HB.out
      have HSV : Hid (∀ W' : World, Save (FT bm vm) wr.drew W' → W'.cell? ⟨bj, 0, none⟩ = some (.pointer (some ⟨bm, 0, none⟩))) := Lib.hid (fun W' h3 => blk_cell ((h3.block bj hcb HK.out.off).trans (show wr.drew.heap[bj]? = _ from HB.out)) 0)
      have HUS : Hid (usedL rows = k) := Lib.hid ((flatL_len rows).symm.trans HLL.out)
      by_cases hof : mk.off = true
      · have HW := Lib.hid (by have := pwrite_any HPM.out.drew HOK.out (HTW.out.below HTW.out.pos (Below.refl _ _).drew) (by have := HSI.out.count; have := HC.out; omega) ((0 : Nat) : Int) (markN o k) hmkl; rw [writeE_off (by rw [hn8.out.2.2]; have := hn8.out.1; omega) hof] at this; exact this)
        have HMKL := Lib.hid hmkl
        clear hmkl hcb hlt
        generalize markN o k = q at *
        go_wp2_with fail
        go_region_held3 (fun W => W.cell? ⟨bj, 0, none⟩ = some (.pointer (some ⟨bm, 0, none⟩))) (first | assumption | go_keep)
          ((first
            | (go_at_call 51; refine (HMK.out _).mono ?_; rintro r w2 ⟨rfl, rfl⟩)
            | (go_at_call 50; refine HW.out.mono ?_; rintro r w3 ⟨rfl, hp3, hs3⟩; have s3 := HSV.out w3 hs3)))
        rw [write_off _ _ hof] at hp3
        have HF := Lib.hid (And.intro hp3 ((HS.out.drew).trans (show Save (FT bm vm) wr.drew w3 from hs3)))
        clear hp3 hs3 s3
        go_wp2_with fail
        go_ret
        exact StoredPost.fail HK.out HL.out HOO.out (by rw [← hn]; exact HSTN.out) HSI.out HFIT.out.1 HM.out.most HF.out.1 HOK.out HF.out.2 hof
      · have hof2 : mk.off = false := by simpa using hof
        have HW := Lib.hid (by have := pwrite_any HPM.out.drew HOK.out (HTW.out.below HTW.out.pos (Below.refl _ _).drew) (by have := HSI.out.count; have := HC.out; omega) ((0 : Nat) : Int) (markN o k) hmkl; rw [writeE_ok (by rw [hn8.out.2.2]; have := hn8.out.1; omega) hof2] at this; exact this)
        have HMKQ : Hid (markN o k = markN o (usedL rows)) := Lib.hid (by rw [HUS.out])
        clear hmkl hcb hlt
        generalize markN o k = q at *
        go_wp2_with fail
        go_region_held3 (fun W => W.cell? ⟨bj, 0, none⟩ = some (.pointer (some ⟨bm, 0, none⟩))) (first | assumption | go_keep)
          ((first
            | (go_at_call 51; refine (HMK.out _).mono ?_; rintro r w2 ⟨rfl, rfl⟩)
            | (go_at_call 50; refine HW.out.mono ?_; rintro r w3 ⟨rfl, hp3, hs3⟩; have s3 := HSV.out w3 hs3)))
        have HF := Lib.hid (And.intro hp3 ((HS.out.drew).trans (show Save (FT bm vm) wr.drew w3 from hs3)))
        have hb3 := (HF.out.2.block bj HK.out.lt.1 HK.out.off).trans HK.out.blk
        have z1 := blk_cell hb3 1
        have z2 := blk_cell hb3 2
        have y1 := blk_frozen hb3 1
        have y2 := blk_frozen hb3 2
        simp only [List.getElem?_toArray, List.getElem?_cons_succ, List.getElem?_cons_zero] at z1 z2
        clear hp3 hs3 s3 hb3
        go_wp2_with fail
        go_ret
        have hp := HF.out.1
        rw [HMKQ.out] at hp
        exact StoredPost.done (st := st) HK.out HOO.out (by rw [← hn]; exact HSTN.out) HE.out HX.out (by rw [HLL.out]; exact HO.out) HWV.out (by rw [HLL.out]; exact HSI.out) HM.out.most hp HOK.out HF.out.2 hof2
end J
end Go.Proofs.YtnoohhpajoaaoaaDoor
