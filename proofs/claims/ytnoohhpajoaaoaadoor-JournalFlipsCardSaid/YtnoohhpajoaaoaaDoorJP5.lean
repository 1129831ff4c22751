/-
  The landed package journal: Append, Replace.
-/
import Derived.Test.YtnoohhpajoaaoaaDoorJP4
namespace Go.Proofs.YtnoohhpajoaaoaaDoor
open Go.RowKit
namespace J
open H R M
set_option linter.unusedVariables false
set_option maxRecDepth 100000
/-- What storing the records rows leaves. -/
def StorePost (w : World) (bj bm : Nat) (vm : Value) (m : Mem) (s : JS) (FR : Nat → Prop) (ws : Nat → Nat) (rows : List (List Nat)) (r : Ending) (w' : World) : Prop :=
  ∃ e m' s' FR' ws', r = .returned (.int .i64 e) ∧ PJ w' bj bm vm m' s' FR' ∧ Save (fun k => k = bj ∨ FT bm vm k ∨ FR k) w w' ∧ (∀ k, FR' k → FR k ∨ w.heap.size ≤ k) ∧ Wrote m m' ws ws' ∧ Lay m.code.length ws' s' ∧ m'.ok ∧
    (errL m.code.length rows ≠ 0 → e = errL m.code.length rows ∧ s'.rows = s.rows ∧ m'.off = m.off ∧ m'.left = m.left) ∧
    (errL m.code.length rows = 0 → m.off = true → e = 21 ∧ s'.rows = s.rows ∧ m'.off = true) ∧
    (errL m.code.length rows = 0 → m.off = false → (e = 0 ∧ s'.rows = rows) ∨ (e = 21 ∧ s'.rows = s.rows ∧ m'.off = true)) ∧
    (m.off = false → m.left = 0 → m'.off = false ∧ m'.left = 0)
/-- Nothing is stored. -/
theorem StorePost.refused {w : World} {bj bm : Nat} {vm : Value} {m : Mem} {s : JS} {FR : Nat → Prop} {ws : Nat → Nat} {rows : List (List Nat)} {e : Int} (h : PJ w bj bm vm m s FR) (hm : m.ok) (hl : Lay m.code.length ws s) (he : errL m.code.length rows = e) (h0 : e ≠ 0) (n : Nat) : StorePost w bj bm vm m s FR ws rows (.returned (.int .i64 e)) (w.drewN n) :=
  ⟨e, m, s, FR, ws, rfl, h.drewN n, (Save.refl _ w).drewN n, fun k hk => .inl hk, Wrote.refl m ws, hl, hm, fun _ => ⟨he.symm, rfl, rfl, rfl⟩, fun h => absurd (he.symm.trans h) h0, fun h => absurd (he.symm.trans h) h0, fun h1 h2 => ⟨h1, h2⟩⟩
theorem StorePost.of_stored {w w2 w' : World} {bj bm : Nat} {vm wv : Value} {m : Mem} {s : JS} {FR : Nat → Prop} {ws : Nat → Nat} {rows : List (List Nat)} {r : Ending} (hs : Save (fun k => FR k) w w2) (he : errL m.code.length rows = 0) (hwv : ∀ k, wv.ownBlock = some k → FR k ∨ w.heap.size ≤ k)
    (h : StoredPost w2 bj bm vm m s FR ws rows wv r w') : StorePost w bj bm vm m s FR ws rows r w' := by
  obtain ⟨e, m', s', FR', ws', rfl, hpj, hsv, hfr, hwr, hlay, hok, hA, hB, hC⟩ := h
  exact ⟨e, m', s', FR', ws', rfl, hpj, (hs.more fun k hk => .inr (.inr hk)).trans (hsv.more fun k hk => hk.elim .inl fun h => .inr (.inl h)), fun k hk => (hfr k hk).elim .inl (hwv k), hwr, hlay, hok, fun h => absurd he h, fun _ => hA, fun _ => hB, hC⟩
/-- Behind an append onto its words, a journal is what it was. -/
theorem PJ.grown {w w' : World} {bj bm : Nat} {vm : Value} {m : Mem} {s : JS} {FR : Nat → Prop} (h : PJ w bj bm vm m s FR) (hs : Save (fun k => s.v.ownBlock = some k) w w') (hown : w'.ownsRow 0 30 1 s.v (flatL s.rows).length (w32 (flatL s.rows))) : PJ w' bj bm vm m s FR := by
  have hlt := h.lt
  refine ⟨h.pm.save hs fun k hk hf => (h.apart.2 k (h.fr k hf)).2 hk, (hs.block bj hlt.1 fun e => (h.apart.2 bj (h.fr bj e)).1 rfl).trans h.blk, hown, h.fr, fun k hk => ⟨Nat.lt_of_lt_of_le (hlt.2 k hk) hs.size, (h.frlt k hk).2⟩, h.off, h.err, h.small, h.area, h.tab⟩
theorem longL_snoc (rows : List (List Nat)) (r : List Nat) : longL (rows ++ [r]) = (longL rows || decide (64 < r.length)) := by simp [longL]
theorem errL_snoc {n : Nat} {rows : List (List Nat)} {r : List Nat} (h : errL n rows = 0) : errL n (rows ++ [r]) = if 64 < r.length then 2 else if ((n / 2 : Nat) : Int) - 4 < usedL rows + (r.length + 1) then 9 else 0 := by
  have hl : longL rows = false := longL_no fun i x hx => errL_long h x (List.mem_of_getElem? hx)
  unfold errL
  rw [longL_snoc, hl, usedL_snoc]
  by_cases h64 : 64 < r.length <;> simp [h64]
set_option maxHeartbeats 4000000 in
theorem pappend_any {w : World} {bj bm : Nat} {vm v : Value} {m : Mem} {s : JS} {FR G : Nat → Prop} {ws : Nat → Nat} {xs : List Nat} (h : PJ w bj bm vm m s FR) (hm : m.ok) (tb : E.Tab w) (hc : m.count ≤ 900000) (h16 : 16 ≤ m.code.length) (hw : Weak m ws) (hl : Lay m.code.length ws s)
    (hr : Rd w G v xs) (hG : ∀ k, G k → k ≠ bj ∧ ¬ FT bm vm k ∧ ¬ FR k) (hu : xs.length ≤ 1000) (hx : ∀ x ∈ xs, x < 4294967296) :
    Calls Tryd.prog 17 #[.pointer (some ⟨bj, 0, none⟩), v] w (StorePost w bj bm vm m s FR ws (s.rows ++ [xs])) := by
  obtain ⟨A, c, rfl⟩ := Sl.shape hr
  have hlx := w32_len xs
  rw [hlx] at hr ⊢
  have hused := errL_used h.err
  have hmost := hm.most
  have HFR := Lib.hid (pfree_all h hm)
  have HE := Lib.hid (errL_snoc (r := xs) h.err)
  have HK := Lib.hid h
  have HM := Lib.hid hm
  have HTB := Lib.hid tb
  have HC := Lib.hid hc
  have HL := Lib.hid hl
  have HR := Lib.hid hr
  have HG := Lib.hid hG
  have HX := Lib.hid hx
  have HFL : Hid (freeL m.code.length s.rows = min 64 (((m.code.length / 2 : Nat) : Int) - 4 - usedL s.rows - 1)) := Lib.hid (by unfold freeL; omega)
  have HU := Lib.hid hused
  have HMO := Lib.hid hmost
  clear h hm tb hc h16 hw hl hr hG hx hlx hused hmost
  obtain ⟨l, hll⟩ : ∃ l, xs.length = l := ⟨_, rfl⟩
  rw [hll] at HE HR hu ⊢
  have HLL := Lib.hid hll
  clear hll
  by_cases h64 : 64 < l
  · have h64i : (64 : Int) < (l : Int) := by omega
    have HE2 : Hid (errL m.code.length (s.rows ++ [xs]) = 2) := Lib.hid (by rw [HE.out, if_pos h64])
    clear h64
    go_enter Tryd.func17, Tryd.ntmps17
    go_wp2_with fail
    go_ret
    exact StorePost.refused HK.out HM.out HL.out HE2.out (by decide) 0
  · have h64i : ¬ (64 : Int) < (l : Int) := by omega
    obtain ⟨f, hf⟩ : ∃ f, freeL m.code.length s.rows = f := ⟨_, rfl⟩
    rw [hf] at HFR
    have HF := Lib.hid (HFL.out.symm.trans hf)
    clear hf
    by_cases hlf : f < (l : Int)
    · have HE2 : Hid (errL m.code.length (s.rows ++ [xs]) = 9) := Lib.hid (by rw [HE.out, if_neg h64, if_pos (by have := HF.out; omega)])
      clear h64
      go_enter Tryd.func17, Tryd.ntmps17
      go_wp2_with fail
      refine HFR.out.mono ?_
      rintro r w1 ⟨rfl, n1, rfl⟩
      go_wp2_with fail
      go_ret
      exact StorePost.refused HK.out HM.out HL.out HE2.out (by decide) n1
    · have HE2 : Hid (errL m.code.length (s.rows ++ [xs]) = 0) := Lib.hid (by rw [HE.out, if_neg h64, if_neg (by have := HF.out; omega)])
      have HAR := Lib.hid (fun n1 => papprec_any (w := w.drewN n1) (HK.out.drewN n1).own (Sl.drewN HR.out n1) (fun k hk e => (HG.out k hk).2.2 (HK.out.fr k e)) (by rw [flatL_len]; have := HLL.out; have := HU.out; have := HMO.out; omega))
      have c2 := blk_cell HK.out.blk 2
      simp only [List.getElem?_toArray, List.getElem?_cons_succ, List.getElem?_cons_zero] at c2
      clear h64
      go_enter Tryd.func17, Tryd.ntmps17
      go_wp2_with fail
      refine HFR.out.mono ?_
      rintro r w1 ⟨rfl, n1, rfl⟩
      go_wp2_with fail
      refine (HAR.out n1).mono ?_
      rintro r w2 ⟨v2, rfl, ho2, he2, hs2, hk2⟩
      have hfl : flatL (s.rows ++ [xs]) = flatL s.rows ++ xs.length :: xs := flatL_snoc _ _
      rw [← hfl] at ho2
      have hs2' : Save (fun k => FR k) w w2 := ((Save.refl _ w).drewN n1).trans (hs2.more fun k hk => HK.out.fr k hk)
      have hpj2 := (HK.out.drewN n1).grown hs2 he2
      have hk2' : ∀ k, v2.ownBlock = some k → FR k ∨ w.heap.size ≤ k := fun k hk => (hk2 k hk).elim (fun h => .inl (HK.out.fr k h)) fun h => .inr h
      have hwv : ∀ k, v2.ownBlock = some k → k ≠ bj ∧ ¬ FT bm vm k ∧ k ≠ 0 := fun k hk => (hk2' k hk).elim (fun h => ⟨(HK.out.apart.2 k h).1, (HK.out.apart.2 k h).2, fun e => HK.out.tab (e ▸ h)⟩) fun h => ⟨fun e => by have := HK.out.lt.1; omega, fun e => by have := HK.out.pm.lt k e; omega, fun e => by have := HTB.out.pos; omega⟩
      have htab : E.Tab w2 := M.tab_save HTB.out hs2' HK.out.tab
      have HST := Lib.hid (pstore_any hpj2 HM.out htab HC.out HL.out HE2.out (fun r hr x hx => by
        rcases List.mem_append.1 hr with h | h
        · exact HK.out.small r h x hx
        · rw [List.mem_singleton.1 h] at hx; exact HX.out x hx) ho2 hwv)
      have HSV := Lib.hid (And.intro hs2' hk2')
      clear ho2 he2 hs2 hk2 hfl hs2' hpj2 hk2' hwv htab
      go_wp2_with fail
      refine HST.out.mono ?_
      intro r w3 hp
      have HP := Lib.hid (StorePost.of_stored HSV.out.1 HE2.out HSV.out.2 hp)
      obtain ⟨e, m', s', FR', ws', rfl, _⟩ := hp
      go_wp2_with fail
      go_ret
      exact HP.out
theorem flatL_take {rows : List (List Nat)} {k : Nat} {r : List Nat} (h : rows[k]? = some r) : flatL (rows.take (k + 1)) = flatL (rows.take k) ++ r.length :: r := by
  rw [List.take_add_one, h]
  exact flatL_snoc _ _
set_option maxHeartbeats 4000000 in
theorem preplace_any {w : World} {bj bm : Nat} {vm v : Value} {m : Mem} {s : JS} {FR G : Nat → Prop} {ws : Nat → Nat} {rows : List (List Nat)} (h : PJ w bj bm vm m s FR) (hm : m.ok) (tb : E.Tab w) (hc : m.count ≤ 900000) (h16 : 16 ≤ m.code.length) (hw : Weak m ws) (hl : Lay m.code.length ws s)
    (hr : RR w G v rows) (hG : ∀ k, G k → k ≠ bj ∧ ¬ FT bm vm k) (hu : usedL rows ≤ 1000) (hx : ∀ r ∈ rows, ∀ x ∈ r, x < 4294967296) :
    Calls Tryd.prog 20 #[.pointer (some ⟨bj, 0, none⟩), v] w (StorePost w bj bm vm m s FR ws rows) := by
  obtain ⟨A, c, rfl⟩ := hr.shape
  have HCAP := Lib.hid (pcap_any h.pm hm h.blk)
  have HR := Lib.hid (RR.mono (G' := fun k => k < w.heap.size) hr fun k hk _ => hk)
  have HK := Lib.hid h
  have HM := Lib.hid hm
  have HTB := Lib.hid tb
  have HC := Lib.hid hc
  have HL := Lib.hid hl
  have HX := Lib.hid hx
  have hrl := rows_le_used rows
  have hlen : rows.length ≤ 1000 := by omega
  have HU := Lib.hid hu
  have hq2 : m.code.length / 2 ≤ 1000000 := by have := hm.most; omega
  have HF : Hid (longL rows = false → errL m.code.length rows = if ((m.code.length / 2 : Nat) : Int) - 4 < usedL rows then 9 else 0) := Lib.hid (fun e => by unfold errL; rw [e]; rfl)
  have HF2 : Hid (longL rows = true → errL m.code.length rows = 2) := Lib.hid (fun e => by unfold errL; rw [e]; rfl)
  clear h hm tb hc h16 hw hl hr hG hu hx hrl
  generalize m.code.length / 2 = q at *
  go_enter Tryd.func20, Tryd.ntmps20
  go_wp2_with fail
  go_loopg [5, 13] rows.length (fun g n i wr => ∃ k : Nat, k + g = rows.length ∧ n = .int .i64 (usedL (rows.take k) : Nat) ∧ i = .int .i64 (k : Nat) ∧ wr = w ∧ ∀ (i : Nat) (r : List Nat), i < k → rows[i]? = some r → r.length ≤ 64)
  case atStart => exact ⟨0, Nat.zero_add _, rfl, rfl, rfl, fun i r hi => by omega⟩
  case round =>
    obtain ⟨k, hg, rfl, rfl, rfl, hal⟩ := hrel
    have HG := Lib.hid hg
    have HAL := Lib.hid hal
    clear hg hal
    by_cases hlt : k < rows.length
    · obtain ⟨xs, hxs⟩ : ∃ xs, rows[k]? = some xs := ⟨_, List.getElem?_eq_getElem hlt⟩
      obtain ⟨ad, B, d, rfl, hc, _⟩ := HR.out.get hxs
      have HXS := Lib.hid hxs
      have hki : (k : Int) < (rows.length : Int) := by omega
      have HS := Lib.hid (usedL_take rows hxs)
      have hb : (usedL (rows.take k) : Int) + xs.length + 1 ≤ 1000 := by have := HU.out; have := usedL_take_le rows (k + 1); have := HS.out; omega
      clear hxs
      by_cases h64 : 64 < xs.length
      · have h64i : (64 : Int) < (xs.length : Int) := by omega
        have HE : Hid (errL m.code.length rows = 2) := Lib.hid (HF2.out (longL_yes HXS.out h64))
        clear h64
        go_wp2_with fail
        go_ret
        exact StorePost.refused HK.out HM.out HL.out HE.out (by decide) 0
      · have h64i : ¬ (64 : Int) < (xs.length : Int) := by omega
        have HNX : Hid (∀ (i : Nat) (r : List Nat), i < k + 1 → rows[i]? = some r → r.length ≤ 64) := Lib.hid (fun i r hi hr => by
          rcases Nat.lt_or_ge i k with h | h
          · exact HAL.out i r h hr
          · obtain rfl : i = k := by omega
            rw [HXS.out] at hr
            injection hr with hr
            subst hr
            omega)
        clear h64
        generalize usedL (rows.take k) = t at *
        go_wp2_with fail
        go_roundg (gk - 1)
        case measure => have := HG.out; omega
        case rel => exact ⟨k + 1, by have := HG.out; omega, by rw [HS.out]; go_num, by go_num, rfl, HNX.out⟩
    · have hk : ¬ (k : Int) < (rows.length : Int) := by omega
      have hk2 : k = rows.length := by have := HG.out; omega
      have HLL := Lib.hid (longL_no fun i r hr => HAL.out i r (by have := (List.getElem?_eq_some_iff.1 hr).1; omega) hr)
      have HE := Lib.hid (HF.out HLL.out)
      have HUE : Hid (usedL (rows.take k) = usedL rows) := Lib.hid (by rw [hk2, List.take_length])
      have hut : usedL (rows.take k) ≤ 1000 := by rw [HUE.out]; exact HU.out
      clear hlt hk2
      rw [← HUE.out] at HE
      generalize usedL (rows.take k) = t at *
      generalize gk = g0 at *
      by_cases hf : (q : Int) - 4 < (t : Int)
      · have HE2 : Hid (errL m.code.length rows = 9) := Lib.hid (by rw [HE.out, if_pos hf])
        go_wp2_with fail
        refine HCAP.out.mono ?_
        rintro r w1 ⟨rfl, rfl⟩
        go_wp2_with fail
        go_ret
        exact StorePost.refused HK.out HM.out HL.out HE2.out (by decide) 0
      · have HE2 : Hid (errL m.code.length rows = 0) := Lib.hid (by rw [HE.out, if_neg hf])
        go_wp2_with fail
        refine HCAP.out.mono ?_
        rintro r w1 ⟨rfl, rfl⟩
        go_wp2_with fail
        go_loopg [8, 32] rows.length (fun g x i wx => ∃ k : Nat, k + g = rows.length ∧ i = .int .i64 (k : Nat) ∧ wx.ownsRow 0 30 1 x (flatL (rows.take k)).length (w32 (flatL (rows.take k))) ∧ (∀ j, x.ownBlock = some j → w1.heap.size ≤ j) ∧ Below w1.heap.size w1 wx)
        case atStart => exact ⟨0, Nat.zero_add _, rfl, World.ownsRow_nil _ _ _ _, (fun j hj => by simp [Value.ownBlock] at hj), Below.refl _ _⟩
        case round =>
          obtain ⟨k2, hg2, rfl, hown, hlow, hB⟩ := hrel
          have HG2 := Lib.hid hg2
          have HO := Lib.hid hown
          have HLO := Lib.hid hlow
          have HB := Lib.hid hB
          clear hg2 hown hlow hB
          by_cases hlt2 : k2 < rows.length
          · obtain ⟨xs, hxs⟩ : ∃ xs, rows[k2]? = some xs := ⟨_, List.getElem?_eq_getElem hlt2⟩
            obtain ⟨ad, B, d, rfl, hc2, hrd⟩ := (HR.out.keep HB.out).get hxs
            have hb2 : (flatL (rows.take k2)).length + xs.length ≤ 100000 := by
              have h1 := usedL_take_le rows (k2 + 1)
              have h2 := usedL_take rows hxs
              have h3 := HU.out
              rw [flatL_len]
              omega
            have HAR := Lib.hid (papprec_any HO.out hrd (fun j hj e => by have := HLO.out j e; omega) hb2)
            have HFT := Lib.hid (flatL_take hxs)
            have hki2 : (k2 : Int) < (rows.length : Int) := by omega
            clear hxs hrd hb2 hlt2
            generalize xs.length = xl at *
            go_wp2_with fail
            refine HAR.out.mono ?_
            rintro r w2 ⟨v2, rfl, ho2, he2, hs2, hk2⟩
            have HQ := Lib.hid (And.intro ho2 (And.intro hs2 hk2))
            clear ho2 he2 hs2 hk2
            go_wp2_with fail
            go_roundg (gk - 1)
            case measure => have := HG2.out; omega
            case rel =>
              refine ⟨k2 + 1, by have := HG2.out; omega, by go_num, ?_, fun j hj => ?_, HB.out.trans (HQ.out.2.1.below HB.out.size fun j hj => HLO.out j hj)⟩
              · rw [HFT.out]; exact HQ.out.1
              · exact (HQ.out.2.2 j hj).elim (HLO.out j) fun h => Nat.le_trans HB.out.size h
          · have hki2 : ¬ (k2 : Int) < (rows.length : Int) := by omega
            have hkk : k2 = rows.length := by have := HG2.out; omega
            have ho := HO.out
            rw [hkk, List.take_length] at ho
            have hsv := Save.of_below FR HB.out
            have hpj := HK.out.save (F := fun _ => False) (Save.of_below _ HB.out) (fun k hk => hk.elim)
            have hwv : ∀ k, u8.ownBlock = some k → k ≠ bj ∧ ¬ FT bm vm k ∧ k ≠ 0 := fun k hk => ⟨fun e => by have := HK.out.lt.1; have := HLO.out k hk; omega, fun e => by have := HK.out.pm.lt k e; have := HLO.out k hk; omega, fun e => by have := HTB.out.pos; have := HLO.out k hk; omega⟩
            have HST := Lib.hid (pstore_any hpj HM.out (HTB.out.below HTB.out.pos HB.out) HC.out HL.out HE2.out HX.out ho hwv)
            have HSV := Lib.hid hsv
            clear hlt2 hkk ho hsv hpj hwv
            go_wp2_with fail
            refine HST.out.mono ?_
            intro r w3 hp
            have HP := Lib.hid (StorePost.of_stored HSV.out HE2.out (fun k hk => .inr (HLO.out k hk)) hp)
            obtain ⟨e, m', s', FR', ws', rfl, _⟩ := hp
            go_wp2_with fail
            go_ret
            exact HP.out
end J
end Go.Proofs.YtnoohhpajoaaoaaDoor
