/-
  The landed earliest.
-/
import Derived.Test.YtojflmejkigdiaaQEar0
import Derived.Deep.MidRow
namespace Go.Proofs.Ytojflmejkigdiaa
open Go.RowKit Go.Shelf
attribute [local go_sem] Oper.semAt_some
namespace Q
open H
set_option linter.unusedVariables false
set_option linter.unusedSimpArgs false
set_option maxRecDepth 100000
abbrev mk (D : Nat) : Deferred := { target := .collected D, args := #[] }
/-- The marks of the ranges that have ended. -/
structure Mks (w : World) (Ds : List Nat) (W : World) : Prop where
  ok : ∀ D ∈ Ds, w.heap.size ≤ D ∧ W.heap[D]? = some (.deferred (some []))
  nd : Ds.Nodup
theorem Mks.call {w W V : World} {Ds : List Nat} (h : Mks w Ds W) (hB : Below W.heap.size W V) : Mks w Ds V := ⟨fun D hD => ⟨(h.ok D hD).1, heap_keep hB (h.ok D hD).2⟩, h.nd⟩
theorem Mks.set {w W : World} {Ds : List Nat} (h : Mks w Ds W) (a : Addr) (v : Value) : Mks w Ds (W.setCell a v) := ⟨fun D hD => ⟨(h.ok D hD).1, (KeepsOthers.setCell W a v).same D _ (h.ok D hD).2 rfl⟩, h.nd⟩
theorem Mks.cons {w W : World} {Ds : List Nat} (h : Mks w Ds W) {D : Nat} (hD : w.heap.size ≤ D) (hk : W.heap[D]? = some (.deferred (some []))) (hn : D ∉ Ds) : Mks w (D :: Ds) W :=
  ⟨fun E hE => by rcases List.mem_cons.1 hE with rfl | hE; exact ⟨hD, hk⟩; exact h.ok E hE, List.nodup_cons.2 ⟨hn, h.nd⟩⟩
theorem mks_own {β : Type} {w W0 : World} {Ds : List Nat} (h0 : Mks w Ds W0) : OwnFrom W0.heap.size (fun (_ : β) V => Mks w Ds V) := fun s W W' row h hg hr =>
  ⟨fun D hD => ⟨(h.ok D hD).1, kept_own (W := W) (hlt_of (h0.ok D hD).2) (h.ok D hD).2 hg hr⟩, h.nd⟩
theorem leaves_marks {F : Fence} {n : Nat} {P : Program} {fn : Func} {tmps : Array Value} {R : Ending → World → Prop} {w : World} (Z : World → Prop) (hZ : ∀ V D, Z V → w.heap.size ≤ D → V.heap[D]? = some (.deferred (some [])) → Z (V.putObj D (.deferred none)))
    (hE : ∀ V, Z V → LeavesIn F n P fn tmps R [] .returning V) : ∀ (Ds : List Nat) (W : World), Mks w Ds W → Z W → LeavesInM F n P fn tmps R (Ds.map mk) .returning W
  | [], W, _, hz => hE W hz
  | D :: Ds, W, h, hz => by
    have hD := h.ok D (by simp)
    have hn := List.nodup_cons.1 h.nd
    refine ⟨by simp, .inl ⟨D, _, rfl, run_takeDeferred hD.2, ?_⟩⟩
    refine leaves_marks Z hZ hE Ds _ ⟨fun E hE => ?_, hn.2⟩ (hZ W D hz hD.1 hD.2)
    have hE2 := h.ok E (by simp [hE])
    exact ⟨hE2.1, (World.putObj_heap_other (fun e => hn.1 (by rw [← e]; exact hE))).trans hE2.2⟩
theorem results_cell {P : Program} {fn : Func} {t : Tmp} {T : TypeId} (h : fn.results = #[.cell t T]) (tmps : Array Value) {b : Nat} {v : Value} {w : World} (ht : tmps.getD t undef = .pointer (some ⟨b, 0, none⟩)) (hl : (loadVar T ⟨b, 0, none⟩).run P w = .ok v w) : (results fn tmps).run P w = .ok v w := by
  have ht' : tmps[t]?.getD undef = .pointer (some ⟨b, 0, none⟩) := by simpa using ht
  simp only [results, h]
  simp [ht', asAddr, Sem.run_bind, Sem.run_pure, hl]
theorem sizeA : (Try.prog.info? 64).map (·.size) = some 21 := by kernel_rfl
theorem ab_range {W : World} {b : Nat} {l : List Int} (h : Ab W b l) : W.rangeAt b 0 (l.map (Value.int .i64)) := fun j v hv => by
  unfold Ab at h
  rw [Nat.zero_add]
  simp only [World.cell?, h, Option.isSome_none, Bool.false_eq_true, if_false]
  rw [List.getElem?_toArray]
  exact hv
theorem ab_there {W : World} {b : Nat} (h : Ab W b zero21) : W.there b 0 21 := fun j hj => by
  have h1 := h.cell (i := j) (by simpa [zero21] using hj)
  rw [Nat.zero_add]
  exact ⟨by rw [h1]; rfl, h.fz j⟩
theorem setCells_ind {Z : World → Prop} (b : Nat) (h : ∀ V i v, Z V → Z (V.setCell ⟨b, i, none⟩ v)) : ∀ (vs : List Value) (o : Nat) (W : World), Z W → Z (W.setCells b o vs)
  | [], _, _, hz => hz
  | v :: vs, o, W, hz => setCells_ind b h vs (o + 1) _ (h W o v hz)
/-- What earliest holds through its loops. -/
structure Eh (w : World) (size : Int) (l : List Int) (W : World) : Prop where
  sz : Boxed W w.heap.size 3 (.int .i64 size)
  res : Ab W (w.heap.size + 1) zero21
  at' : Ab W (w.heap.size + 1 + 1) l
  bel : Below w.heap.size w W
  lt : w.heap.size + 3 ≤ W.heap.size
theorem Eh.call {w W V : World} {size : Int} {l : List Int} (h : Eh w size l W) (hB : Below W.heap.size W V) : Eh w size l V := ⟨heap_keep hB h.sz, heap_keep hB h.res, heap_keep hB h.at', bt h.bel hB |> fun x => x, Nat.le_trans h.lt hB.size⟩
theorem Eh.set {w W : World} {size : Int} {l : List Int} (h : Eh w size l W) (i : Nat) (z : Int) : Eh w size (l.set i z) (W.setCell ⟨w.heap.size + 1 + 1, i, none⟩ (.int .i64 z)) :=
  ⟨hoth _ h.sz (by omega), hoth _ h.res (by omega), h.at'.set i z, h.bel.setCell (p := ⟨w.heap.size + 1 + 1, i, none⟩) (by simp; omega) _, Nat.le_trans h.lt (KeepsOthers.setCell _ _ _).size⟩
theorem Eh.oth {w W : World} {size : Int} {l : List Int} (h : Eh w size l W) {b : Nat} (hb : w.heap.size + 3 ≤ b) (i : Nat) (v : Value) : Eh w size l (W.setCell ⟨b, i, none⟩ v) :=
  ⟨hoth _ h.sz (by omega), hoth _ h.res (by omega), hoth _ h.at' (by omega), h.bel.setCell (p := ⟨b, i, none⟩) (by simp; omega) _, Nat.le_trans h.lt (KeepsOthers.setCell _ _ _).size⟩
theorem Eh.own {β : Type} {w : World} {size : Int} (f : β → List Int) {B : Nat} (hB : w.heap.size ≤ B) : OwnFrom B (fun s W => Eh w size (f s) W) := fun s W W' row h hg hr =>
  ⟨heap_own h.sz rfl hg (fun r e => (hr r e).2), heap_own h.res rfl hg (fun r e => (hr r e).2), heap_own h.at' rfl hg (fun r e => (hr r e).2), ownFrom_below (β := Unit) (Nat.le_refl _) hB () W W' row h.bel hg hr, Nat.le_trans h.lt hg.size⟩
set_option maxHeartbeats 8000000 in
theorem pearly_any (T : List Wn) (A : Option Addr) (cap B : Nat) (c : Nat) (tick size : Int) (w : World) (hB : B ≤ w.heap.size) (hlen : T.length ≤ 1000) (hc : c < 12) (ht : 0 ≤ tick ∧ tick ≤ 1000000) (hs : 1 ≤ size ∧ size ≤ 100000) (hR : RdsWn w B A T) :
    Calls Try.prog 53 #[.slice A T.length cap, .int .i64 c, .int .i64 tick, .int .i64 size] w fun e w' => ∃ E, e = .returned (av E) ∧ Erl T c tick size E ∧ Below w.heap.size w w' := by
  have HSEQ : Hid (∀ (W : World) Bt b, Below w.heap.size w W → w.heap.size + 3 ≤ b → b < W.heap.size → w.heap.size + 3 ≤ W.heap.size → Sb W Bt (.slice A T.length cap) → w.heap.size + 3 ≤ Bt → Bt ≠ b → SeqO Fence.wide 4 Try.prog 85 #[bp Bt] (fun h : HpO => #[h.1.v]) (Kc (fun x => x = w.heap.size + 1 + 1 ∨ x = b)) (fun ys => ys = hopsL T) (fun _ => True) (2 * T.length) W) := Lib.hid (fun W Bt b hW hb hbW hsz hsb hbt hne =>
    hops_seq 4 (by omega) Bt A cap B T _ W hlen hsb (by omega) (hR.below (hW.mono hB)) (by intro x hx; omega) (by intro x hx; omega))
  have HHOP := Lib.hid (fun W => hops_any A T.length cap W)
  have HP : Hid (∀ l, ps size l (hopsL T) = pass (hl T) size l) := Lib.hid (fun l => rfl)
  have HIT : Hid (∀ k, pass (hl T) size (itr (hl T) size k (ini c tick)) = itr (hl T) size (k + 1) (ini c tick)) := Lib.hid (fun k => rfl)
  have HERL : Hid (∀ E k, Aok E → E = itr (hl T) size k (ini c tick) → pass (hl T) size E = E → Erl T c tick size E) := Lib.hid (fun E k h1 h2 h3 => ⟨h1, ⟨k, h2⟩, h3⟩)
  have HINI := Lib.hid (ini_ok (craft := (c : Int)) (by omega) ht)
  have HIN : Hid ((il 21).set c tick = ini c tick) := Lib.hid (by unfold ini il; rw [Int.toNat_natCast]; simp)
  have HSB := Lib.hid hs
  clear hR hB
  generalize hl' : T.length = len at *
  clear hl'
  obtain ⟨W2, hW2⟩ : ∃ W2, W2 = ((w.alloc (.cells #[.int .i64 size] 3)).alloc (.cells #[.int .i64 0, .int .i64 0, .int .i64 0, .int .i64 0, .int .i64 0, .int .i64 0, .int .i64 0, .int .i64 0, .int .i64 0, .int .i64 0, .int .i64 0, .int .i64 0, .int .i64 0, .int .i64 0, .int .i64 0, .int .i64 0, .int .i64 0, .int .i64 0, .int .i64 0, .int .i64 0, .int .i64 0] 64)).alloc (.cells #[.int .i64 0, .int .i64 0, .int .i64 0, .int .i64 0, .int .i64 0, .int .i64 0, .int .i64 0, .int .i64 0, .int .i64 0, .int .i64 0, .int .i64 0, .int .i64 0, .int .i64 0, .int .i64 0, .int .i64 0, .int .i64 0, .int .i64 0, .int .i64 0, .int .i64 0, .int .i64 0, .int .i64 0] 64) := ⟨_, rfl⟩
  have E0 : Eh w size (il 0) W2 := by
    rw [hW2]
    refine ⟨?_, ?_, ?_, bt (bel2 w _ _) (bel1 _ _), by simp⟩
    · exact ((Boxed.new w 3 (.int .i64 size)).alloc _).alloc _
    · have h := hup (.cells #[.int .i64 0, .int .i64 0, .int .i64 0, .int .i64 0, .int .i64 0, .int .i64 0, .int .i64 0, .int .i64 0, .int .i64 0, .int .i64 0, .int .i64 0, .int .i64 0, .int .i64 0, .int .i64 0, .int .i64 0, .int .i64 0, .int .i64 0, .int .i64 0, .int .i64 0, .int .i64 0, .int .i64 0] 64) (heap_top (w.alloc (.cells #[.int .i64 size] 3)) (.cells #[.int .i64 0, .int .i64 0, .int .i64 0, .int .i64 0, .int .i64 0, .int .i64 0, .int .i64 0, .int .i64 0, .int .i64 0, .int .i64 0, .int .i64 0, .int .i64 0, .int .i64 0, .int .i64 0, .int .i64 0, .int .i64 0, .int .i64 0, .int .i64 0, .int .i64 0, .int .i64 0, .int .i64 0] 64)); rw [World.size_alloc] at h; exact h
    · have h := heap_top ((w.alloc (.cells #[.int .i64 size] 3)).alloc (.cells #[.int .i64 0, .int .i64 0, .int .i64 0, .int .i64 0, .int .i64 0, .int .i64 0, .int .i64 0, .int .i64 0, .int .i64 0, .int .i64 0, .int .i64 0, .int .i64 0, .int .i64 0, .int .i64 0, .int .i64 0, .int .i64 0, .int .i64 0, .int .i64 0, .int .i64 0, .int .i64 0, .int .i64 0] 64)) (.cells #[.int .i64 0, .int .i64 0, .int .i64 0, .int .i64 0, .int .i64 0, .int .i64 0, .int .i64 0, .int .i64 0, .int .i64 0, .int .i64 0, .int .i64 0, .int .i64 0, .int .i64 0, .int .i64 0, .int .i64 0, .int .i64 0, .int .i64 0, .int .i64 0, .int .i64 0, .int .i64 0, .int .i64 0] 64); rw [World.size_alloc, World.size_alloc] at h; exact h
  refine (callsIn_wide (n := 5)).1 ?_
  refine callsIn_of_wp_marks Try.func53 rfl trivial ?_ rfl
  simp only [Try.ntmps53, List.size_toArray, List.length_cons, List.length_nil, Nat.reduceAdd, Nat.reduceSub, Array.replicate_succ, Array.replicate_zero, List.push_toArray, List.append_toArray, List.nil_append, List.cons_append]
  gi_wp2
  change Code.wpIn _ _ _ _ _ _ (((w.alloc (.cells #[.int .i64 size] 3)).alloc (.cells #[.int .i64 0, .int .i64 0, .int .i64 0, .int .i64 0, .int .i64 0, .int .i64 0, .int .i64 0, .int .i64 0, .int .i64 0, .int .i64 0, .int .i64 0, .int .i64 0, .int .i64 0, .int .i64 0, .int .i64 0, .int .i64 0, .int .i64 0, .int .i64 0, .int .i64 0, .int .i64 0, .int .i64 0] 64)).alloc (.cells #[.int .i64 0, .int .i64 0, .int .i64 0, .int .i64 0, .int .i64 0, .int .i64 0, .int .i64 0, .int .i64 0, .int .i64 0, .int .i64 0, .int .i64 0, .int .i64 0, .int .i64 0, .int .i64 0, .int .i64 0, .int .i64 0, .int .i64 0, .int .i64 0, .int .i64 0, .int .i64 0, .int .i64 0] 64))
  rw [← hW2]
  clear hW2
  gi_loopg [14] 21 (fun g s14 wr => ∃ k : Nat, k + g = 21 ∧ s14 = .int .i64 (k : Nat) ∧ Eh w size (il k) wr)
  case atStart => exact ⟨0, rfl, rfl, E0⟩
  case round =>
    obtain ⟨k, hg, rfl, hE⟩ := hrel
    have HE := Lib.hid hE
    have HG := Lib.hid hg
    by_cases hlt : k < 21
    · have HLT := Lib.hid hlt
      have hki : (k : Int) < 21 := by omega
      have hkc := hE.at'.cell (i := k) (by rw [il_len k (by omega)]; exact hlt)
      have hkf := hE.at'.fz k
      have HSET := Lib.hid (il_set k hlt)
      clear hE hg
      generalize gt (il k) (k : Int) = z0 at *
      gi_wp2
      gi_roundg (gk - 1)
      case measure => have := HG.out; have := HLT.out; omega
      case rel => exact ⟨k + 1, by have := HG.out; have := HLT.out; omega, by go_num, by rw [← HSET.out]; exact HE.out.set k 1000001⟩
    · obtain rfl : k = 21 := by omega
      have hkc := hE.at'.cell (i := c) (by rw [il_len 21 (by omega)]; omega)
      have hkf := hE.at'.fz c
      have hci : (c : Int) < 21 := by omega
      clear hE hg hlt
      generalize gt (il 21) (c : Int) = z0 at *
      gi_wp2
      have HE2 : Hid (Eh w size (ini c tick) (wr.setCell ⟨w.heap.size + 1 + 1, c, none⟩ (.int .i64 tick))) := Lib.hid (by rw [← HIN.out]; exact HE.out.set c tick)
      obtain ⟨V, hV⟩ : ∃ V, V = wr.setCell ⟨w.heap.size + 1 + 1, c, none⟩ (.int .i64 tick) := ⟨_, rfl⟩
      rw [← hV] at HE2 ⊢
      clear hkc hkf hci z0
      have HE3 : Hid (Eh w size (ini c tick) (V.alloc (.cells #[.bool true] 4))) := Lib.hid (HE2.out.call (bel1 _ _))
      have HX3 : Hid (Boxed (V.alloc (.cells #[.bool true] 4)) V.heap.size 4 (.bool true)) := Lib.hid (Boxed.new _ _ _)
      have hVsz : V.heap.size = wr.heap.size := by rw [hV]; exact Array.size_modify
      have hltV := HE2.out.lt
      clear hV
      obtain ⟨b0, hb0⟩ : ∃ b0, b0 = V.heap.size := ⟨_, rfl⟩
      have hb0' : wr.heap.size = b0 := by omega
      rw [← hb0] at HX3
      rw [hb0']
      obtain ⟨V1, hV1⟩ : ∃ V1, V1 = V.alloc (.cells #[.bool true] 4) := ⟨_, rfl⟩
      rw [← hV1] at HE3 HX3 ⊢
      have hlb0 : w.heap.size + 3 ≤ b0 := by omega
      clear hV1 hb0 hb0' hVsz HE HE2 E0 HG
      have HS1 := HSB.out
      refine wpIn_loop_ghost_k (fun g a W => ∃ (b : Nat) (fg : Bool) (l : List Int) (k : Nat) (Ds : List Nat) (y10 y16 y17 y18 y19 y12 y13 y23 y24 y25 y26 y27 y28 y29 y30 y31 y32 y33 y34 y35 y36 y37 y38 y39 y40 y41 y42 y43 y44 : Value), a = { tmps := #[.slice A len cap, .int .i64 (c : Int), .int .i64 tick, .int .i64 size, undef, undef, undef, bp w.heap.size, bp (w.heap.size + 1), bp (w.heap.size + 1 + 1), y10, bp b, y12, y13, .int .i64 21, .bool false, y16, y17, y18, y19, .int .i64 (c : Int), .int .i64 tick, .pointer (some ⟨w.heap.size + 1 + 1, c, none⟩), y23, y24, y25, y26, y27, y28, y29, y30, y31, y32, y33, y34, y35, y36, y37, y38, y39, y40, y41, y42, y43, y44, undef], defers := Ds.map mk } ∧ w.heap.size + 3 ≤ b ∧ Boxed W b 4 (.bool fg) ∧ Eh w size l W ∧ Mks w Ds W ∧ Aok l ∧ l = itr (hl T) size k (ini c tick) ∧ (fg = false → pass (hl T) size l = l) ∧ (if fg then (tot l).toNat + 1 else 0) ≤ g) ((tot (ini c tick)).toNat + 1) ?start ?round
      case start => exact ⟨b0, true, ini c tick, 0, [], _, _, _, _, _, _, _, _, _, _, _, _, _, _, _, _, _, _, _, _, _, _, _, _, _, _, _, _, _, rfl, hlb0, HX3.out, HE3.out, ⟨by simp, by simp⟩, HINI.out, rfl, by simp, by rw [if_pos rfl]; exact Nat.le_refl _⟩
      case round =>
        rintro g a W ⟨b, fg, l, k, Ds, y10, y16, y17, y18, y19, y12, y13, y23, y24, y25, y26, y27, y28, y29, y30, y31, y32, y33, y34, y35, y36, y37, y38, y39, y40, y41, y42, y43, y44, rfl, hb, hX, hEh, hM, hok, hit, hfx, hg2⟩ JJ KK HJJ0 HKK0
        have HJJ := Lib.hid HJJ0
        have HKK := Lib.hid HKK0
        clear HJJ0 HKK0
        clear HE3 HX3 hlb0 hltV
        have hbc := hX.cell
        have hbf := hX.frozen
        cases fg with
        | false =>
          have HFX := Lib.hid (hfx rfl)
          have HER := Lib.hid (HERL.out l k hok hit HFX.out)
          have HM := Lib.hid hM
          have HBL := Lib.hid hEh.bel
          have hcs := ab_range hEh.at'
          have hth : W.there (w.heap.size + 1) 0 ((l.map (Value.int .i64)).toArray).size := by
            have e : ((l.map (Value.int .i64)).toArray).size = 21 := by simp [hok.len]
            rw [e]; exact ab_there hEh.res
          have hsz : (Try.prog.info? 64).map (·.size) = some (l.map (Value.int .i64)).length := by rw [List.length_map, hok.len]; exact sizeA
          have hsz2 : (Try.prog.info? 64).map (·.size) = some ((l.map (Value.int .i64)).toArray).size := by
            have e : ((l.map (Value.int .i64)).toArray).size = 21 := by simp [hok.len]
            rw [e]; exact sizeA
          have hth2 : W.there (w.heap.size + 1) 0 (l.map (Value.int .i64)).length := by rw [List.length_map, hok.len]; exact ab_there hEh.res
          clear hfx hg2 hok hit hM hEh
          refine wpIn_wide.2 ?_
          go_wp2_with fail
          refine wpIn_wide.2 ?_
          go_wp2_with (first
            | (refine wpList_load_mid rfl 64 (.tmp 9) rfl (w.heap.size + 1 + 1) 0 rfl (l.map (Value.int .i64)) _ hcs Try.underlying64 rfl hsz ?_)
            | (refine wpList_store_mid rfl 64 (.tmp 8) (.tmp 45) rfl (w.heap.size + 1) 0 (l.map (Value.int .i64)).toArray rfl rfl hth hsz2 (all_oneCell_toArray (by intro v hv; obtain ⟨z, _, rfl⟩ := List.mem_map.1 hv; rfl)) ?_))
          have hrg := World.rangeAt_setCells_same W (w.heap.size + 1) 0 (l.map (Value.int .i64)) hth2
          have hbl := setCells_ind (Z := fun V => Below w.heap.size w V) (w.heap.size + 1) (fun V i v h => h.setCell (p := ⟨w.heap.size + 1, i, none⟩) (by simp) _) (l.map (Value.int .i64)) 0 W HBL.out
          have hmk := setCells_ind (Z := fun V => Mks w Ds V) (w.heap.size + 1) (fun V i v h => h.set _ _) (l.map (Value.int .i64)) 0 W HM.out
          change bodyPostM _ _ _ _ _ .ret _ (W.setCells (w.heap.size + 1) 0 (l.map (Value.int .i64)))
          generalize W.setCells (w.heap.size + 1) 0 (l.map (Value.int .i64)) = V at *
          refine leaves_marks (w := w) (Z := fun V => V.rangeAt (w.heap.size + 1) 0 (l.map (Value.int .i64)) ∧ Below w.heap.size w V) ?_ ?_ Ds V hmk ⟨hrg, hbl⟩
          · rintro V D ⟨z1, z2⟩ hD hd
            refine ⟨fun j v hv => ?_, z2.trans (belowK_b (w := w) (Nat.le_refl _) V D _ _ hD hd rfl rfl)⟩
            exact cell_kept (z1 j v hv) (grownBy_putObj' V D (.deferred none)) (fun r e => by cases e; exact ⟨_, hd, rfl⟩)
          · rintro V ⟨z1, z2⟩
            have hld := run_loadVar_mid (P := Try.prog) V (w.heap.size + 1) 0 64 (l.map (Value.int .i64)) _ z1 Try.underlying64 rfl hsz
            exact ⟨av l, results_cell (b := w.heap.size + 1) rfl _ rfl hld, l, rfl, HER.out, z2⟩
        | true =>
          have hgp : (tot l).toNat + 1 ≤ g := by rw [if_pos rfl] at hg2; exact hg2
          obtain ⟨Wc, hWc⟩ : ∃ Wc, Wc = W.setCell ⟨b, 0, none⟩ (.bool false) := ⟨_, rfl⟩
          have EC : Eh w size l Wc := by rw [hWc]; exact hEh.oth hb 0 _
          have XC : Boxed Wc b 4 (.bool false) := by rw [hWc]; exact hX.set _
          have MC : Mks w Ds Wc := by rw [hWc]; exact hM.set _ _
          have hbW : b < Wc.heap.size := XC.lt
          have HOK := Lib.hid hok
          have HIT2 := Lib.hid hit
          have HGP := Lib.hid hgp
          have HWC := Lib.hid hWc
          clear hfx hg2 hgp hok hit hM hEh hX hWc
          gi_wp2_with (refine ⟨trivial, ?_⟩; gi_at_call 65; rw [← HWC.out]; refine (callsIn_wide.2 (HHOP.out Wc)).mono ?_; rintro e W0 ⟨rfl, sb, hB0, hsz0⟩; have HSZ0 := Lib.hid hsz0; clear hsz0)
          have HQ := Lib.hid (HSEQ.out W0 Wc.heap.size b (bt EC.bel hB0) hb (by have := HSZ0.out; omega) (by have := EC.lt; have := HSZ0.out; omega) sb EC.lt (by omega))
          have E1 := EC.call hB0
          have X1 : Boxed W0 b 4 (.bool false) := heap_keep hB0 XC
          have M1 := MC.call hB0
          have hle1 : w.heap.size ≤ W0.heap.size := by have := E1.lt; omega
          have hfl0 : fl size l ([] : List HpO) = false := by unfold fl; exact decide_eq_false (by show ¬ tot l < tot l; omega)
          clear EC XC MC sb hB0 hbc hbf
          refine wpIn_rangeO rfl (by omega) (gf := 85) (lb := #[bp Wc.heap.size]) rfl trivial (enters_of Try.func85 (by kernel_rfl) rfl) HQ.out Kc.trans Kc.b (Below.refl _ _) (fun _ => rfl)
            (fun pre V => ((Eh w size (ps size l pre) V ∧ Boxed V b 4 (.bool (fl size l pre))) ∧ Mks w Ds V) ∧ W0.heap.size ≤ V.heap.size)
            (fun _ _ _ => False)
            (OwnFrom.and (OwnFrom.and (OwnFrom.and (Eh.own _ hle1) (own_bx _ _ _)) (mks_own M1)) (fun _ _ _ _ hs hg _ => Nat.le_trans hs hg.size))
            (fun _ _ _ _ _ hs _ _ => hs)
            ⟨⟨⟨E1, by rw [hfl0]; exact X1⟩, M1⟩, Nat.le_refl _⟩
            (fun x a' V => ∃ Bh, W0.heap.size ≤ Bh ∧ Hb V Bh x.1 ∧ a' = { tmps := #[.slice A len cap, .int .i64 (c : Int), .int .i64 tick, .int .i64 size, undef, undef, undef, bp w.heap.size, bp (w.heap.size + 1), bp (w.heap.size + 1 + 1), y10, bp b, bp Bh, y13, .int .i64 21, .bool false, y16, y17, y18, y19, .int .i64 (c : Int), .int .i64 tick, .pointer (some ⟨w.heap.size + 1 + 1, c, none⟩), .bool true, .slice A len cap, .func (.func 85) #[] #[bp Wc.heap.size], x.1.v, y27, y28, y29, y30, y31, y32, y33, y34, y35, y36, y37, y38, y39, y40, y41, y42, y43, y44, undef], defers := [] })
            (fun x a' _ X Y row hs hg hr => by obtain ⟨Bh, h1, h2, h3⟩ := hs; exact ⟨Bh, h1, heap_own h2 rfl hg (fun r e => (hr r e).2), h3⟩)
            ?assign ?body ?done ?stop
          case assign =>
            rintro lp pre x V K ⟨⟨⟨q1, q2⟩, q3⟩, hge⟩ hK
            gi_wp2
            exact hK _ _ ((KeepsOthers.alloc _ _).from _) (Kc.of (bel1 V _)) ⟨⟨⟨q1.call (bel1 V _), q2.alloc _⟩, q3.call (bel1 V _)⟩, by simp; omega⟩ ⟨V.heap.size, hge, Hb.new V x.1, rfl⟩
          case body =>
            rintro lp pre x a' V hlp ⟨r, hr⟩ ⟨⟨⟨q1, q2⟩, q3⟩, hge⟩ ⟨Bh, hBh, N0, rfl⟩ hlt
            have hLok := ps_ok HOK.out HSB.out.1 pre
            have hyes := fl_yes HOK.out HSB.out.1 pre x
            have hno := fl_no HOK.out HSB.out.1 pre x
            have hsn := ps_snoc size l pre x
            generalize ps size l pre = L at *
            generalize fl size l pre = fb at *
            have HSN := Lib.hid hsn
            have HYES := Lib.hid hyes
            have HNO := Lib.hid hno
            have HQ1 := Lib.hid q1
            have HQ2 := Lib.hid q2
            have HQ3 := Lib.hid q3
            have HGE := Lib.hid hge
            have hBV := hlt_of N0
            obtain ⟨⟨src, dst, wn⟩, hxo⟩ := x
            have hx1 := hxo.src
            have hx2 := hxo.dst
            have hx3 := hxo.w
            dsimp only at hx1 hx2 hx3
            obtain ⟨sn, rfl⟩ : ∃ sn : Nat, src = sn := ⟨src.toNat, by omega⟩
            obtain ⟨dn, rfl⟩ : ∃ dn : Nat, dst = dn := ⟨dst.toNat, by omega⟩
            have hs21 : (sn : Int) < 21 := by omega
            have hd21 : (dn : Int) < 21 := by omega
            have hsn' : sn < 21 := by omega
            have hdn' : dn < 21 := by omega
            have cS := q1.at'.cell (i := sn) (by rw [hLok.len]; exact hsn')
            have hbS := hLok.bd sn hsn'
            have HEND := Lib.hid (fun (X : World) => pend_any ⟨sn, dn, wn⟩ (gt L (sn : Int)) size X hx3 hbS HSB.out)
            have heb := hend_bd hx3 (t := gt L (sn : Int)) hbS.1 HSB.out.1
            have cZ := q1.sz.cell
            dsimp only at HEND N0
            obtain ⟨kd, wa, wb, wf, wu, wr'⟩ := wn
            obtain ⟨⟨n0, n1, n2, n3, n4, n5, n6, n7⟩, -⟩ := row8 N0
            dsimp only at n0 n1 n2 n3 n4 n5 n6 n7 HEND
            have HN0 := Lib.hid N0
            have HTS := Lib.hid (show gt L (sn : Int) = gt L (sn : Int) from rfl)
            generalize htS : gt L (sn : Int) = tS at *
            generalize heE : hend' ⟨kd, wa, wb, wf, wu, wr'⟩ tS size = eE at *
            have HES := Lib.hid (And.intro htS heE)
            have HLK := Lib.hid hLok
            have L0 : Below V.heap.size V V.drew := (Below.refl _ _).drew
            clear q1 q2 q3 hge hr hlt hyes hno hsn hx1 hx2 hx3 hLok htS heE N0 hbS
            gi_wp2
            refine wpIn_region_held_round (S := fun X => X.cell? ⟨Bh, 0, none⟩ = some (.int .i64 (sn : Int)) ∧ X.cell? ⟨Bh, 1, none⟩ = some (.int .i64 (dn : Int)) ∧ X.cell? ⟨Bh, 2, none⟩ = some (.int .i64 kd) ∧ X.cell? ⟨Bh, 3, none⟩ = some (.int .i64 wa) ∧ X.cell? ⟨Bh, 4, none⟩ = some (.int .i64 wb) ∧ X.cell? ⟨Bh, 5, none⟩ = some (.int .i64 wf) ∧ X.cell? ⟨Bh, 6, none⟩ = some (.int .i64 wu) ∧ X.cell? ⟨Bh, 7, none⟩ = some (.int .i64 wr') ∧ X.cell? ⟨w.heap.size + 1 + 1, sn, none⟩ = some (.int .i64 tS) ∧ X.cell? ⟨w.heap.size, 0, none⟩ = some (.int .i64 size)) (fun ⟨_, _, h⟩ => h) rfl (by kernel_rfl) ⟨n0, n1, n2, n3, n4, n5, n6, n7, cS, cZ⟩ (fun hHeld => ?_)
            refine wpAnyH_take (i := 0) (oi := { dst := some 27, op := _, type := _, pos := _, after := _, guard := _ }) (v := ?_) rfl (by kernel_rfl) (by kernel_rfl) (by kernel_rfl) (fun _ _ _ h => h) (Or.inl ⟨by rfl, ?_⟩) (by assumption) ?_
            rotate_left
            · (intro w hSw; (try dsimp only at hSw); go_simp)
              first | done | with_reducible rfl
            try simp only [Act.put, List.setIfInBounds_toArray, List.set_cons_zero, List.set_cons_succ]
            refine wpAnyH_take (i := 1) (oi := { dst := some 28, op := _, type := _, pos := _, after := _, guard := _ }) (v := ?_) rfl (by kernel_rfl) (by kernel_rfl) (by kernel_rfl) (fun _ _ _ h => h) (Or.inl ⟨by rfl, ?_⟩) (by assumption) ?_
            rotate_left
            · (intro w hSw; (try dsimp only at hSw); go_simp)
              first | done | with_reducible rfl
            try simp only [Act.put, List.setIfInBounds_toArray, List.set_cons_zero, List.set_cons_succ]
            refine wpAnyH_take (i := 2) (oi := { dst := some 29, op := _, type := _, pos := _, after := _, guard := _ }) (v := ?_) rfl (by kernel_rfl) (by kernel_rfl) (by kernel_rfl) (fun _ _ _ h => h) (Or.inl ⟨by rfl, ?_⟩) (by assumption) ?_
            rotate_left
            · (intro w hSw; (try dsimp only at hSw); go_simp)
              first | done | with_reducible rfl
            try simp only [Act.put, List.setIfInBounds_toArray, List.set_cons_zero, List.set_cons_succ]
            refine wpAnyH_take (i := 3) (oi := { dst := some 30, op := _, type := _, pos := _, after := _, guard := _ }) (v := ?_) rfl (by kernel_rfl) (by kernel_rfl) (by kernel_rfl) (fun _ _ _ h => h) (Or.inl ⟨by rfl, ?_⟩) (by assumption) ?_
            rotate_left
            · (intro w hSw; (try dsimp only at hSw); go_simp)
              first | done | with_reducible rfl
            try simp only [Act.put, List.setIfInBounds_toArray, List.set_cons_zero, List.set_cons_succ]
            refine wpAnyH_take (i := 4) (oi := { dst := some 31, op := _, type := _, pos := _, after := _, guard := _ }) (v := ?_) rfl (by kernel_rfl) (by kernel_rfl) (by kernel_rfl) (fun _ _ _ h => h) (Or.inl ⟨by rfl, ?_⟩) (by assumption) ?_
            rotate_left
            · (intro w hSw; (try dsimp only at hSw); go_simp)
              first | done | with_reducible rfl
            try simp only [Act.put, List.setIfInBounds_toArray, List.set_cons_zero, List.set_cons_succ]
            refine wpAnyH_take (i := 5) (oi := { dst := some 32, op := _, type := _, pos := _, after := _, guard := _ }) (v := ?_) rfl (by kernel_rfl) (by kernel_rfl) (by kernel_rfl) (fun _ _ _ h => h) (Or.inl ⟨by rfl, ?_⟩) (by assumption) ?_
            rotate_left
            · (intro w hSw; (try dsimp only at hSw); go_simp)
              first | done | with_reducible rfl
            try simp only [Act.put, List.setIfInBounds_toArray, List.set_cons_zero, List.set_cons_succ]
            refine wpAnyH_ready (rs := [6]) (by kernel_rfl) (by simp) ?_
            refine AllReadyH.cons (o := { dst := some 33, op := _, type := _, pos := _, after := _, guard := _ }) rfl (fun K hK => ?_) AllReadyH.nil
            go_simp
            go_at_call 66; refine (HEND.out _).mono ?_
            rintro r V7 ⟨rfl, hB7⟩
            go_wp2_with fail
            have L7 := bt L0 hB7
            refine hK.out _ _ ⟨below_cell L7 n0, below_cell L7 n1, below_cell L7 n2, below_cell L7 n3, below_cell L7 n4, below_cell L7 n5, below_cell L7 n6, below_cell L7 n7, below_cell L7 cS, below_cell L7 cZ⟩ (fun hH2 => ?_)
            clear hK K hHeld
            rename _ => hHeld
            try simp only [Act.put, List.setIfInBounds_toArray, List.set_cons_zero, List.set_cons_succ]
            refine wpAnyH_take (i := 7) (oi := { dst := some 13, op := _, type := _, pos := _, after := _, guard := _ }) (v := ?_) rfl (by kernel_rfl) (by kernel_rfl) (by kernel_rfl) (fun _ _ _ h => h) (Or.inl ⟨by rfl, ?_⟩) (by assumption) ?_
            rotate_left
            · (intro w hSw; (try dsimp only at hSw); go_simp)
              first | done | with_reducible rfl
            try simp only [Act.put, List.setIfInBounds_toArray, List.set_cons_zero, List.set_cons_succ]
            refine wpAnyH_done (by kernel_rfl) ?_ _
            have E7 := HQ1.out.call L7
            have X7 : Boxed V7 b 4 (.bool fb) := heap_keep L7 HQ2.out
            have M7 := HQ3.out.call L7
            have p1 := below_cell L7 n1
            have pD := E7.at'.cell (i := dn) (by rw [HLK.out.len]; exact hdn')
            have fD := E7.at'.fz dn
            have xc := X7.cell
            have xf := X7.frozen
            have HL7 := Lib.hid L7
            have HE7 := Lib.hid E7
            have HX7 := Lib.hid X7
            have HM7 := Lib.hid M7
            have hge7 : W0.heap.size ≤ V7.heap.size := Nat.le_trans HGE.out L7.size
            generalize htD : gt L (dn : Int) = tD at *
            have HTD := Lib.hid htD
            clear n0 n1 n2 n3 n4 n5 n6 n7 cS cZ hHeld L7 hB7 L0 E7 X7 M7 htD
            by_cases hc : eE < tD
            · gi_wp2
              have k1 := (HE7.out.set dn eE).oth hb 0 (.bool true)
              have k2 : Boxed ((V7.setCell ⟨w.heap.size + 1 + 1, dn, none⟩ (.int .i64 eE)).setCell ⟨b, 0, none⟩ (.bool true)) b 4 (.bool true) := Boxed.set _ (hoth _ HX7.out (by omega))
              have k3 := (HM7.out.set ⟨w.heap.size + 1 + 1, dn, none⟩ (.int .i64 eE)).set ⟨b, 0, none⟩ (.bool true)
              have k4 : Kc (fun x => x = w.heap.size + 1 + 1 ∨ x = b) V ((V7.setCell ⟨w.heap.size + 1 + 1, dn, none⟩ (.int .i64 eE)).setCell ⟨b, 0, none⟩ (.bool true)) := ((Kc.of HL7.out).trans (Kc.set _ (Or.inl rfl))).trans (Kc.set _ (Or.inr rfl))
              have k5 : KeepsFrom W0.heap.size V ((V7.setCell ⟨w.heap.size + 1 + 1, dn, none⟩ (.int .i64 eE)).setCell ⟨b, 0, none⟩ (.bool true)) := (KeepsFrom.trans ⟨HL7.out.size, fun k o _ hk _ => heap_keep HL7.out hk⟩ (((KeepsOthers.setCell V7 _ _).trans (KeepsOthers.setCell _ _ _)).from _))
              refine ⟨k5, k4, ⟨⟨⟨?_, ?_⟩, k3⟩, Nat.le_trans hge7 (Nat.le_trans (KeepsOthers.setCell V7 ⟨w.heap.size + 1 + 1, dn, none⟩ (.int .i64 eE)).size (KeepsOthers.setCell _ ⟨b, 0, none⟩ (.bool true)).size)⟩⟩
              · rw [HSN.out]
                unfold rx
                dsimp only
                rw [HES.out.1, HES.out.2, HTD.out, if_pos hc, Int.toNat_natCast]
                exact k1
              · rw [HYES.out hc]
                exact k2
            · have hno2 := HNO.out (by omega)
              have HNO2 := Lib.hid hno2
              clear hno2
              gi_wp2
              refine ⟨⟨HL7.out.size, fun k o _ hk _ => heap_keep HL7.out hk⟩, Kc.of HL7.out, ⟨⟨⟨?_, ?_⟩, HM7.out⟩, hge7⟩⟩
              · rw [HNO2.out.2]; exact HE7.out
              · rw [HNO2.out.1]; exact HX7.out
          case done =>
            rintro D zs V hD rfl ⟨⟨⟨q1, q2⟩, q3⟩, hge⟩ hK
            rw [HP.out] at q1
            have hfz : fl size l (hopsL T) = decide (tot (pass (hl T) size l) < tot l) := by unfold fl; rw [HP.out]
            rw [hfz] at q2
            have hpo : Aok (pass (hl T) size l) := by rw [← HP.out]; exact ps_ok HOK.out HSB.out.1 _
            have hpt := ps_tot HOK.out HSB.out.1 (hopsL T)
            rw [HP.out] at hpt
            have hpn := tot_nonneg hpo
            have hpi : pass (hl T) size l = itr (hl T) size (k + 1) (ini c tick) := by rw [← HIT.out k, ← HIT2.out]
            have hnd : D ∉ Ds := fun h => by have := hlt_of (M1.ok D h).2; omega
            have M2 := q3.cons (by omega) hK hnd
            have hfin : pass (hl T) size l = l → pass (hl T) size (pass (hl T) size l) = pass (hl T) size l := fun h => by rw [h, h]
            have hq2 := q2.cell
            generalize pass (hl T) size l = l' at *
            have Q1 := Lib.hid q1
            have QM := Lib.hid M2
            have QO := Lib.hid hpo
            have QI := Lib.hid hpi
            have QT := Lib.hid hpt
            have QF := Lib.hid hfin
            have QN := Lib.hid hpn
            clear q1 q2 q3 hK hpo hpi hpt hfin hpn M2
            generalize hd : decide (tot l' < tot l) = dd at *
            have QD := Lib.hid hd
            clear hd hfz
            gi_wp2
            refine HKK.out _ _ ⟨if dd then (tot l').toNat + 1 else 0, ?_, HJJ.out _ _ _ ⟨V.heap.size, dd, l', k + 1, D :: Ds, _, _, _, _, _, _, _, _, _, _, _, _, _, _, _, _, _, _, _, _, _, _, _, _, _, _, _, _, _, rfl, Q1.out.lt, Boxed.new V _ _, Q1.out.call (bel1 V _), QM.out.call (bel1 V _), QO.out, QI.out, ?_, Nat.le_refl _⟩⟩
            · have h1 := HGP.out
              have h2 := QD.out
              have h3 := QN.out
              cases dd with
              | true => rw [if_pos rfl]; have h4 := of_decide_eq_true h2; omega
              | false => rw [if_neg (by simp)]; omega
            · intro hdf
              have h2 := QD.out
              rw [hdf] at h2
              exact QF.out (QT.out.2 (by have h4 := of_decide_eq_false h2; omega))
          case stop =>
            rintro D c pre V hD _ h _
            exact h.elim
end Q
end Go.Proofs.Ytojflmejkigdiaa
