/-
  The landed package journal: how its records lie in words; an append that keeps the elder rows; markOf, appendRecord, slices.Clone.
-/
import Derived.Test.YtnoohhpajoaaoaaDoorJRef3
import Derived.Test.YtnoohhpajoaaoaaDoorJMath
import Derived.Test.YtnoohhpajoaaoaaDoorMP6
import Derived.Laws.Append
import Derived.Deep.DeepAppendRoom
import Derived.Laws.BitsAllLaws
namespace Go.Proofs.YtnoohhpajoaaoaaDoor
open Go.RowKit
namespace J
open H R M
set_option linter.unusedVariables false
set_option maxRecDepth 100000
/-! ### Records as words -/
def flatL (rows : List (List Nat)) : List Nat := rows.flatMap fun r => r.length :: r
theorem flatL_nil : flatL [] = [] := rfl
theorem flatL_cons (r : List Nat) (rows : List (List Nat)) : flatL (r :: rows) = r.length :: (r ++ flatL rows) := by simp [flatL]
theorem flatL_snoc (rows : List (List Nat)) (r : List Nat) : flatL (rows ++ [r]) = flatL rows ++ (r.length :: r) := by simp [flatL]
theorem flatL_len : ∀ rows : List (List Nat), (flatL rows).length = usedL rows
  | [] => rfl
  | r :: rows => by
    have := flatL_len rows
    rw [flatL_cons]
    simp [usedL] at this ⊢
    omega
theorem flatL_lt {rows : List (List Nat)} (h64 : ∀ r ∈ rows, r.length ≤ 64) (hx : ∀ r ∈ rows, ∀ x ∈ r, x < 4294967296) : ∀ x ∈ flatL rows, x < 4294967296 := by
  intro x h
  simp only [flatL, List.mem_flatMap] at h
  obtain ⟨r, hr, h⟩ := h
  rcases List.mem_cons.1 h with rfl | h
  · have := h64 r hr; omega
  · exact hx r hr x h
/-! ### An append that keeps the elder rows -/
/-- Two slices that lie in one block have one capacity there, and the first is no longer. -/
def Pre (v0 v : Value) : Prop := ∀ g n0 c0 n c, v0 = .slice (some ⟨g, 0, none⟩) n0 c0 → v = .slice (some ⟨g, 0, none⟩) n c → c0 = c ∧ n0 ≤ n
theorem Pre.refl (v : Value) : Pre v v := by
  intro g n0 c0 n c h1 h2
  rw [h1] at h2
  injection h2 with _ h2 h3
  omega
theorem own_block {w : World} {base n : Nat} {e : TypeId} {v : Value} {xs : List Value} (h : w.ownsRow base e 1 v n xs) : ∀ k, v.ownBlock = some k → k < w.heap.size := fun k hk => (h.lt k hk).2
theorem own_shorter {w : World} {base base' g n0 c n m : Nat} {e : TypeId} {xs0 ys : List Value} {w0 : World} (h0 : w0.ownsRow base e 1 (.slice (some ⟨g, 0, none⟩) n0 c) n0 xs0)
    (h : w.ownsRow base' e 1 (.slice (some ⟨g, 0, none⟩) n c) n ys) (hx : ys.take n0 = xs0) (hn : n0 ≤ n) : w.ownsRow base e 1 (.slice (some ⟨g, 0, none⟩) n0 c) n0 xs0 := by
  refine ⟨h0.1, .inr ?_⟩
  rcases h0.2 with ⟨e0, _⟩ | ⟨g0, cap0, cur0, e0, hb0, hh0, hn0, hm0, hs0, ht0⟩
  · cases e0
  · rcases h.2 with ⟨e1, _⟩ | ⟨g1, cap1, cur1, e1, hb1, hh1, hn1, hm1, hs1, ht1⟩
    · cases e1
    · injection e0 with e0 e0' e0''
      injection e1 with e1 e1' e1''
      injection e0 with e0
      injection e1 with e1
      injection e0 with e0
      injection e1 with e1
      subst e0 e0'' e1 e1''
      refine ⟨g, c, cur1, rfl, hb0, hh1, hn0, hm0, hs1, ?_⟩
      rw [← hx, ← ht1, List.take_take]
      congr 1
      omega
/-- THE LAW: append of a slice onto an own row; an elder row, in the same block or in another, is kept. -/
theorem run_append_elder {P : Program} (w : World) (t ty : TypeId) (base : Nat) (e : TypeId) (i : TypeInfo) (z : Value) (bytes : Nat) (ht : P.underlying t = some (.slice e)) (hi : P.info? e = some i) (hz : i.zero = some z)
    (hsize : i.size = 1) (hby : i.bytes = bytes) (hzs : z.cells.size = 1)
    (v : Value) (n : Nat) (xs : List Value) (hown : w.ownsRow base e 1 v n xs)
    (ad : Addr) (m c : Nat) (news : List Value) (hl : news.length = m) (hnews : ∀ j u, news[j]? = some u → w.cell? (ad.add j) = some u) (h1 : ∀ u ∈ news, u.oneCell' = true)
    (h63 : n + m ≤ maxLen) (hbytes : (n + m) * bytes ≤ 140737488355328) (hbase : base ≤ w.heap.size)
    (base0 n0 : Nat) (v0 : Value) (xs0 : List Value) (ho0 : w.ownsRow base0 e 1 v0 n0 xs0) (hpre : Pre v0 v) :
    ∃ v' w', (Builtin.append_ #[t, t] ty #[v, .slice (some ad) m c]).run P w = .ok v' w' ∧ w'.ownsRow base e 1 v' (n + m) (xs ++ news) ∧ Save (fun k => v.ownBlock = some k) w w' ∧
      (∀ k, v'.ownBlock = some k → v.ownBlock = some k ∨ w.heap.size ≤ k) ∧ w'.ownsRow base0 e 1 v0 n0 xs0 ∧ Pre v0 v' := by
  obtain ⟨v', w', hr, h2, h3, _, h5⟩ := run_append_own_at (P := P) w base t ty e i z 1 bytes ht hi hz hsize hby hzs (by decide) v n xs hown ad m c news (by omega) hnews h1 h63 hbytes hbase
  have hsave : Save (fun k => v.ownBlock = some k) w w' := ⟨h3.os, h3.tape, h3.output, h3.size, fun k hk hf => h3.block k hk fun e => hf e.symm⟩
  have hblk : ∀ k, v'.ownBlock = some k → v.ownBlock = some k ∨ w.heap.size ≤ k := fun k hk => by
    rcases h5 with h5 | h5
    · exact .inl (h5 ▸ hk)
    · right
      rw [h5] at hk
      injection hk with hk
      omega
  refine ⟨v', w', hr, h2, hsave, hblk, ?_⟩
  rcases ho0.2 with ⟨rfl, hn0⟩ | ⟨g0, c0, cur0, rfl, hb0, hh0, hnc0, hcm0, hcs0, ht0⟩
  · refine ⟨⟨ho0.1, .inl ⟨rfl, hn0⟩⟩, fun g a b c d h => by cases h⟩
  · have hg0 : g0 < w.heap.size := (Array.getElem?_eq_some_iff.1 hh0).1
    by_cases hin : v.ownBlock = some g0
    · rcases hown.2 with ⟨rfl, _⟩ | ⟨g, cap, cur, rfl, hbg, hg, hnc, hcm, hcs, htake⟩
      · simp [Value.ownBlock] at hin
      · obtain rfl : g = g0 := by simpa [Value.ownBlock] using hin
        obtain ⟨rfl, hle⟩ := hpre g n0 c0 n cap rfl rfl
        have hxx : xs.take n0 = xs0 := by
          rw [hg] at hh0
          injection hh0 with hh0
          injection hh0 with hh0
          subst hh0
          rw [← htake, ← ht0, List.take_take]
          congr 1
          omega
        have hxl : xs.length = n := by have := hown.1; omega
        by_cases hroom : n + m ≤ c0
        · obtain ⟨w2, hr2, ho2, _⟩ := run_append_own_spare (P := P) w base t ty e i 1 ht hi hsize g n c0 xs hown ad m c news (by omega) hnews h1 hroom
          rw [hr] at hr2
          injection hr2 with hr2 hr3
          subst hr2 hr3
          refine ⟨own_shorter (m := m) ho0 ho2 (by rw [List.take_append_of_le_length (by omega)]; exact hxx) (by omega), ?_⟩
          intro g' a b c' d h h'
          injection h with h h6 h7
          injection h' with h' h8 h9
          omega
        · have holds : ∀ j u, xs[j]? = some u → w.cell? ((⟨g, 0, none⟩ : Addr).add j) = some u := hown.cells (g := g) rfl
          have hr2 := run_append_grow (P := P) w t ty e i z ht hi hz ⟨g, 0, none⟩ n c0 xs (by rw [hsize]; exact hown.1) holds ad m c news (by rw [hsize]; omega) hnews (by omega) (by simp only [maxLen] at h63; omega) (growslice_fits (by omega) (by rw [hby]; exact hbytes))
          rw [hr] at hr2
          injection hr2 with hr2 hr3
          subst hr2 hr3
          refine ⟨own_kept_below ho0 ((Below.refl w.heap.size w).drew.alloc (Nat.le_refl _) _), ?_⟩
          intro g' a b c' d h h'
          injection h with h h6 h7
          injection h' with h' h8 h9
          injection h with h
          injection h' with h'
          injection h with h
          injection h' with h'
          omega
    · refine ⟨own_as ho0 fun k hk => hsave.block k (by
        have : g0 = k := by simpa [Value.ownBlock] using hk
        omega) (fun e => hin (by
          have : g0 = k := by simpa [Value.ownBlock] using hk
          rw [this]; exact e)), ?_⟩
      intro g' a b c' d h h'
      injection h with h h6 h7
      injection h with h
      injection h with h
      subst h
      rcases h5 with h5 | h5
      · exact absurd (by rw [← h5, h']; rfl) hin
      · rw [h'] at h5
        have : g0 = w.heap.size := by simpa [Value.ownBlock] using h5
        omega
theorem wpList_append_elder {P : Program} {w : World} {ops : Array Oper} {rest : List Oper} {o : Oper} {a : Act} {Q : Exit → Act → World → Prop} (hgd : o.guard = none) (s x : Operand) (t : TypeId)
    (ho : o.op = .call { callee := .builtin .append, args := #[s, x], argTypes := #[t, t] })
    (base : Nat) (e : TypeId) (i : TypeInfo) (z : Value) (bytes : Nat) (ht : P.underlying t = some (.slice e)) (hi : P.info? e = some i) (hz : i.zero = some z) (hsize : i.size = 1) (hby : i.bytes = bytes) (hzs : z.cells.size = 1)
    (v : Value) (n : Nat) (xs : List Value) (hs : a.eval s = v) (hown : w.ownsRow base e 1 v n xs)
    (u : Value) (hx : a.eval x = u) (us : List Value) (G : Nat → Prop) (hr : Sl w G u us) (h1 : ∀ y ∈ us, y.oneCell' = true)
    (h63 : n + us.length ≤ maxLen) (hbytes : (n + us.length) * bytes ≤ 140737488355328) (hbase : base ≤ w.heap.size)
    (base0 n0 : Nat) (v0 : Value) (xs0 : List Value) (ho0 : w.ownsRow base0 e 1 v0 n0 xs0) (hpre : Pre v0 v)
    (h : ∀ v' w', w'.ownsRow base e 1 v' (n + us.length) (xs ++ us) → Save (fun k => v.ownBlock = some k) w w' → (∀ k, v'.ownBlock = some k → v.ownBlock = some k ∨ w.heap.size ≤ k) → w'.ownsRow base0 e 1 v0 n0 xs0 → Pre v0 v' → wpList P ops Q rest (a.put o.dst v') w') : wpList P ops Q (o :: rest) a w := by
  obtain ⟨A, c, rfl, h0, _, hr⟩ := hr
  rcases A with _ | ad
  · obtain rfl : us = [] := by
      rcases us with _ | ⟨y, us⟩
      · rfl
      · obtain ⟨_, e, _⟩ := hr 0 y (by simp)
        cases e
    obtain rfl := h0 rfl
    refine wpList_append_own_none hgd s x t ho base e i 1 ht hi v n xs hs hown hx (h v w ?_ (Save.refl _ _) (fun k hk => .inl hk) ho0 hpre)
    simpa using hown
  · obtain ⟨v', w', hrun, h2, h3, h4, h5, h6⟩ := run_append_elder (P := P) w t o.type base e i z bytes ht hi hz hsize hby hzs v n xs hown ad us.length c us rfl (fun j y hy => by
        obtain ⟨ad', e, _, hc, _⟩ := hr j y hy
        injection e with e
        subst e
        exact hc) h1 h63 hbytes hbase base0 n0 v0 xs0 ho0 hpre
    refine wpList_plain hgd fun K hK => ?_
    unfold Oper.wp execOp
    simp only [ho, resolve, invoke, builtin, Sem.run_bind, Sem.run_pure, Result.andThen_ok, List.map_toArray, List.map_cons, List.map_nil, hs, hx, hrun]
    exact hK _ _ (h v' w' h2 h3 h4 h5 h6)
theorem w32_app (xs ys : List Nat) : w32 (xs ++ ys) = w32 xs ++ w32 ys := by simp [w32]
theorem w32_one (xs : List Nat) : ∀ y ∈ w32 xs, y.oneCell' = true := by
  intro y hy
  simp only [w32, List.mem_map] at hy
  obtain ⟨x, _, rfl⟩ := hy
  rfl
theorem own_Sl {w : World} {base n : Nat} {e : TypeId} {v : Value} {us : List Value} (h : w.ownsRow base e 1 v n us) : Sl w (fun k => v.ownBlock = some k) v us := Sl.own h fun _ hk => hk
/-! ### Contracts -/
set_option maxHeartbeats 2000000 in
/-- slices.Clone: a copy in a block of its own. -/
theorem pclone_row {w : World} {G G2 : Nat → Prop} {v : Value} {xs : List Nat} (h : Rd w G v xs) (hb : xs.length ≤ 1000000) (hG : ∀ k, w.heap.size ≤ k → G2 k) :
    Calls Tryd.prog 58 #[v] w fun r w' => ∃ v', r = .returned v' ∧ Rd w' G2 v' xs ∧ Below w.heap.size w w' := by
  obtain ⟨i0, hi, hz0, hz1, hz2⟩ := info_parts infoU
  have q22 : ∀ (w : World) (a : Option Addr) (n c n' c' : Nat), (binOp .eql 35 (.slice a n c) (.slice none n' c')).run Tryd.prog w = .ok (.bool a.isNone) w := fun w a n c n' c' => Lib.run_eql_slice_nil w _ _ a n c n' c' Tryd.underlying35
  obtain ⟨A, c, rfl⟩ := Sl.shape h
  have hlx := w32_len xs
  generalize hn : (w32 xs).length = n at *
  have HL := Lib.hid hn
  have HH := Lib.hid h
  have HG := Lib.hid hG
  have hnb : n ≤ 1000000 := by omega
  clear hn h hlx hG hb
  rcases A with _ | ad
  · go_enter Tryd.func58, Tryd.ntmps58
    go_wp2
    go_ret
    refine ⟨_, rfl, ?_, Below.refl _ _⟩
    have h0 : w32 xs = [] := by
      obtain ⟨A', c', e, h0, _, hr⟩ := HH.out
      injection e with e1 e2 e3
      subst e1
      rcases hx : w32 xs with _ | ⟨y, us⟩
      · rfl
      · rw [hx] at hr
        obtain ⟨_, e, _⟩ := hr 0 y (by simp)
        cases e
    unfold Rd
    rw [h0]
    exact Sl.nil
  · have hown : (w.alloc (.cells #[] 30)).ownsRow w.heap.size 30 1 (.slice (some ⟨w.heap.size, 0, none⟩) 0 0) 0 [] := World.ownsRow_made w #[] 0 (Nat.le_refl _) (by decide) (by simp)
    have HO := Lib.hid hown
    have hB := Lib.hid ((Below.refl w.heap.size w).alloc (Nat.le_refl _) (.cells #[] 30))
    clear hown
    go_enter Tryd.func58, Tryd.ntmps58
    go_wp2_with (at_builtin; refine wpList_append_sl rfl (.tmp 5) (.tmp 6) 35 rfl w.heap.size 30 i0 (.int .u32 0) 4 Tryd.underlying35 hi hz0 hz1 hz2 rfl _ _ _ rfl HO.out (.slice (some ad) n c) rfl (w32 xs) G (Sl.keep HH.out hB.out) (w32_one xs) (by rw [HL.out]; unfold maxLen; omega) (by rw [HL.out]; omega) (by simp) ?_; intro v1 w1 ho1 hB1; rw [Nat.zero_add, List.nil_append] at ho1; have HO1 := Lib.hid ho1; have HB1 := Lib.hid hB1; clear ho1 hB1)
    go_ret
    exact ⟨v1, rfl, Sl.own HO1.out fun k hk => HG.out k (own_low HO1.out k hk), hB.out.trans HB1.out⟩
set_option maxHeartbeats 2000000 in
/-- appendRecord: the record behind its length; the elder row v is kept. -/
theorem papprec_any {w : World} {v u : Value} {xs ys : List Nat} {G : Nat → Prop} (hown : w.ownsRow 0 30 1 v xs.length (w32 xs)) (hu : Rd w G u ys) (hG : ∀ k, G k → v.ownBlock ≠ some k) (hb : xs.length + ys.length ≤ 100000) :
    Calls Tryd.prog 38 #[v, u] w fun r w' => ∃ v', r = .returned v' ∧ w'.ownsRow 0 30 1 v' (xs ++ ys.length :: ys).length (w32 (xs ++ ys.length :: ys)) ∧ w'.ownsRow 0 30 1 v xs.length (w32 xs) ∧
      Save (fun k => v.ownBlock = some k) w w' ∧ ∀ k, v'.ownBlock = some k → v.ownBlock = some k ∨ w.heap.size ≤ k := by
  obtain ⟨i0, hi, hz0, hz1, hz2⟩ := info_parts infoU
  obtain ⟨B, d, rfl⟩ := Sl.shape hu
  have HE : Hid (w32 (xs ++ ys.length :: ys) = w32 xs ++ [Value.int .u32 (ys.length : Nat)] ++ w32 ys) := Lib.hid (by simp [w32])
  have HEL : Hid ((xs ++ ys.length :: ys).length = xs.length + 1 + ys.length) := Lib.hid (by simp; omega)
  have hlx := w32_len ys
  generalize hm : (w32 ys).length = m at *
  have HM := Lib.hid hm
  have HU := Lib.hid hu
  have HG := Lib.hid hG
  have HO := Lib.hid hown
  have hwm : IntKind.u32.wrap ((m : Nat) : Int) = ((m : Nat) : Int) := by rw [wrap_u32_nat, Nat.mod_eq_of_lt (by omega)]
  have hbn : xs.length + m ≤ 100000 := by omega
  rw [← hlx] at HE HEL
  have HLX := Lib.hid hlx
  clear hm hu hG hown hb hlx
  generalize hn : xs.length = n at *
  have HN := Lib.hid hn
  clear hn
  go_enter Tryd.func38, Tryd.ntmps38
  go_wp2_with (first
    | (at_builtin; refine wpList_append_elder rfl (.tmp 5) (.tmp 9) 35 rfl 0 30 i0 (.int .u32 0) 4 Tryd.underlying35 hi hz0 hz1 hz2 rfl v n (w32 xs) rfl (own_kept_below HO.out ((Below.refl _ _).alloc (Nat.le_refl _) _)) _ rfl [.int .u32 (m : Nat)] (fun k => k = w.heap.size) ⟨some ⟨w.heap.size, 0, none⟩, 1, rfl, (fun e => by cases e), Nat.le_refl _, (fun j y hy => ⟨_, rfl, rfl, by rw [ad_add]; exact cell_new1 _ _ _ j y hy, by rw [ad_add]; exact blk_frozen (heap_alloc_new w _) j⟩)⟩ (by intro y hy; rw [List.mem_singleton.1 hy]; rfl) (by simp; unfold maxLen; omega) (by simp; omega) (Nat.zero_le _) 0 n v (w32 xs) (own_kept_below HO.out ((Below.refl _ _).alloc (Nat.le_refl _) _)) (Pre.refl v) ?_; intro v1 w1 ho1 hs1 hk1 he1 hp1; have F1 := Lib.hid (And.intro ho1 (And.intro hs1 (And.intro hk1 (And.intro he1 hp1)))); clear ho1 hs1 hk1 he1 hp1)
    | (at_builtin; refine wpList_append_elder rfl (.tmp 10) (.tmp 11) 35 rfl 0 30 i0 (.int .u32 0) 4 Tryd.underlying35 hi hz0 hz1 hz2 rfl v1 (n + 1) (w32 xs ++ [Value.int .u32 (m : Nat)]) rfl F1.out.1 _ rfl (w32 ys) G (Sl.save (Sl.keep HU.out ((Below.refl _ _).alloc (Nat.le_refl _) _)) F1.out.2.1 HG.out) (w32_one ys) (by rw [HM.out]; unfold maxLen; omega) (by rw [HM.out]; omega) (Nat.zero_le _) 0 n v (w32 xs) F1.out.2.2.2.1 F1.out.2.2.2.2 ?_; intro v2 w2 ho2 hs2 hk2 he2 hp2; have F2 := Lib.hid (And.intro ho2 (And.intro hs2 (And.intro hk2 (And.intro he2 hp2)))); clear ho2 hs2 hk2 he2 hp2))
  go_ret
  have hB0 : Save (fun k => v.ownBlock = some k) w (w.alloc (.cells #[.int .u32 (m : Nat)] 30)) := (Save.refl _ w).alloc _
  have hsz : w.heap.size ≤ (w.alloc (.cells #[.int .u32 (m : Nat)] 30)).heap.size := by simp
  refine ⟨v2, rfl, ?_, F2.out.2.2.2.1, (hB0.trans F1.out.2.1).trim F2.out.2.1 (fun j hj => (F1.out.2.2.1 j hj).elim .inl fun h => .inr (Nat.le_trans hsz h)), fun k hk => ?_⟩
  · rw [← HLX.out, HE.out, HEL.out]
    have := F2.out.1
    rw [HM.out] at this
    exact this
  · rcases F2.out.2.2.1 k hk with h | h
    · exact (F1.out.2.2.1 k h).elim .inl fun h => .inr (Nat.le_trans hsz h)
    · exact .inr (Nat.le_trans hsz (Nat.le_trans F1.out.2.1.size h))
end J
end Go.Proofs.YtnoohhpajoaaoaaDoor
