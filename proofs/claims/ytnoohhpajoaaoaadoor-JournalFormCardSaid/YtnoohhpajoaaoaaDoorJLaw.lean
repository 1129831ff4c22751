/-
  What the laws of package journal share: a journal in new blocks, opens, fresh, store.
-/
import Derived.Test.YtnoohhpajoaaoaaDoorJProg
namespace Go.Proofs.YtnoohhpajoaaoaaDoor
open Go.RowKit
namespace J
open H R M
set_option linter.unusedVariables false
set_option maxRecDepth 100000
theorem newPost_get {Rr : World → Nat → Value → Mem → Prop} {n : Nat} (h1 : 1 ≤ n) (h2 : n ≤ 4096) {w w' : World} {r : Ending} (h : NewPost Rr n w r w') : ∃ b v, r = .returned (.tuple #[.pointer (some ⟨b, 0, none⟩), .int .i64 0]) ∧ Made Rr w w' b v (Mem.new n) := by
  unfold NewPost at h
  rw [if_pos (by omega), Int.toNat_natCast] at h
  exact h
theorem errL_small {n : Nat} (hn : n ≤ 1000) {rows : List (List Nat)} (h : errL n rows = 0) : usedL rows ≤ 500 := by
  have := errL_used h
  omega
set_option maxHeartbeats 2000000 in
/-- What opens returns: whether the journal's records are those. -/
theorem opens_any {w : World} {bm : Nat} {vm : Value} {m : Mem} (h : PM w bm vm m) (hm : m.ok) (tb : E.Tab w) (h16 : 16 ≤ m.code.length) (hn : m.code.length ≤ 1000) {ws : Nat → Nat} {s : JS} (hw : Near m ws) (hl : Lay m.code.length ws s) {G : Nat → Prop} {v : Value} {want : List (List Nat)} (hr : RR w G v want) :
    Calls Tryd.prog 30 #[.pointer (some ⟨bm, 0, none⟩), v] w fun r w' => r = .returned (.bool (decide (s.rows = want))) ∧ Below w.heap.size w w' := by
  have HO := Lib.hid (popen_any h hm tb h16 ws s hw.weak hl)
  have HR := Lib.hid hr
  have HU : Hid (usedL s.rows ≤ 500) := Lib.hid (errL_small hn hl.ok)
  have HNE := Lib.hid hw
  clear h hm tb h16 hn hw hl hr
  go_enter Tryd.func30, Tryd.ntmps30
  go_wp2_with fail
  refine HO.out.mono ?_
  rintro r w1 ⟨p, e, rfl, hb, hcase⟩
  rcases hcase with ⟨_, hne⟩ | ⟨rfl, bj, s', FR, rfl, hpj, hbj, hFR, hrows, hlay⟩
  · exact absurd HNE.out hne
  · have HB := Lib.hid hb
    have HP := Lib.hid (precords_any hpj (by rw [hrows]; have := HU.out; omega) (fun k => w1.heap.size ≤ k) (fun k hk => hk))
    have HRW := Lib.hid hrows
    clear hb hbj hFR hlay hpj hrows
    go_wp2_with fail
    refine HP.out.mono ?_
    rintro r w2 ⟨v2, rfl, hrr, hb2⟩
    have HS := Lib.hid (rsame_any hrr (HR.out.keep (HB.out.trans (hb2.mono HB.out.size))) (by rw [HRW.out]; have := HU.out; omega))
    have HB2 := Lib.hid (HB.out.trans (hb2.mono HB.out.size))
    rw [HRW.out] at HS
    clear hrr hb2
    go_wp2_with fail
    refine HS.out.mono ?_
    rintro r w3 ⟨rfl, n, rfl⟩
    go_wp2_with fail
    go_ret
    exact ⟨rfl, below_drewN HB2.out n⟩
/-- A journal s over a memory of n words that holds the words ws, in blocks from B on. -/
structure JJ (B : Nat) (w : World) (bj bm : Nat) (vm : Value) (m : Mem) (s : JS) (FR : Nat → Prop) (ws : Nat → Nat) (n : Nat) : Prop where
  pj : PJ w bj bm vm m s FR
  ok : m.ok
  len : m.code.length = n
  lay : Lay n ws s
  bj : B ≤ bj
  bm : ∀ k, FT bm vm k → B ≤ k
  fr : ∀ k, FR k → B ≤ k
/-- What fresh returns. -/
def FreshPost (n : Nat) (rows : List (List Nat)) (w : World) (r : Ending) (w' : World) : Prop :=
  ∃ bj bm vm m s FR ws, r = .returned (.tuple #[.pointer (some ⟨bm, 0, none⟩), .pointer (some ⟨bj, 0, none⟩)]) ∧ JJ w.heap.size w' bj bm vm m s FR ws n ∧ Below w.heap.size w w' ∧ Near m ws ∧ (∀ a, a < n → Clean m ws a) ∧
    s.rows = rows ∧ m.off = false ∧ m.left = 0 ∧ m.count ≤ 40000
set_option maxHeartbeats 4000000 in
theorem fresh_any {w : World} (n : Nat) (h16 : 16 ≤ n) (hn : n ≤ 1000) (tb : E.Tab w) {G : Nat → Prop} {v : Value} {rows : List (List Nat)} (hr : RR w G v rows) (he : errL n rows = 0) (hx : ∀ r ∈ rows, ∀ x ∈ r, x < 4294967296) :
    Calls Tryd.prog 12 #[.int .i64 (n : Nat), v] w (FreshPost n rows w) := by
  have HN := Lib.hid (pnew_any (n : Nat) w tb)
  have HR := Lib.hid (hr.mono (G' := fun k => k < w.heap.size) fun k hk _ => hk)
  have HTB := Lib.hid tb
  have HE := Lib.hid (And.intro he (And.intro hx (errL_small hn he)))
  have HK := Lib.hid (And.intro h16 hn)
  clear tb hr he hx h16 hn
  go_enter Tryd.func12, Tryd.ntmps12
  go_wp2_with fail
  refine HN.out.mono ?_
  intro r w1 hp
  obtain ⟨bm, vm, rfl, hpm, hnew, hB1⟩ := newPost_get (by have := HK.out.1; omega) (by have := HK.out.2; omega) hp
  have HP := Lib.hid (And.intro hpm (And.intro hnew hB1))
  clear hp hpm hnew hB1
  go_wp2_with fail
  have hlen : (Mem.new n).code.length = n := List.length_replicate
  refine (pformat_any HP.out.1 (new_ok (by have := HK.out.1; omega) (by have := HK.out.2; omega)) (HTB.out.below HTB.out.pos HP.out.2.2) (by show (0 : Nat) ≤ _; omega) (fun _ => 0)).mono ?_
  rintro r w2 ⟨p, e, m2, rfl, hpm2, hok2, hs2, hl2, hc2, hA, hBB, hC⟩
  rw [hlen] at hl2 hA hBB hC
  obtain ⟨rfl, ho2, hle2, bj, s, FR, ws, rfl, hpj, hbj, hFR, hrows, hwr, hlay⟩ := hC HK.out.1 rfl rfl
  have hB2 : Below w.heap.size w w2 := HP.out.2.2.trans (hs2.below HP.out.2.2.size HP.out.2.1)
  have hnr := new_near (n := n) (by have := HK.out.1; omega)
  have hF2 : Hid (PJ w2 bj bm vm m2 s FR ∧ m2.ok ∧ m2.code.length = n ∧ Lay n ws s ∧ w.heap.size ≤ bj ∧ (∀ k, FR k → w.heap.size ≤ k) ∧ Below w.heap.size w w2 ∧ Near m2 ws ∧ (∀ a, a < n → Clean m2 ws a) ∧ m2.off = false ∧ m2.left = 0 ∧ m2.count ≤ 20000) :=
    Lib.hid ⟨hpj, hok2, hl2, hlay, Nat.le_trans HP.out.2.2.size hbj, fun k hk => Nat.le_trans HP.out.2.2.size (hFR k hk), hB2, hwr.near hnr.1, fun a ha => hwr.clean (by rw [hlen]; exact ha) (hnr.2 a ha), ho2, hle2, by simpa [Mem.new] using hc2⟩
  clear hpm2 hok2 hs2 hl2 hc2 hA hBB hC ho2 hle2 hpj hbj hFR hrows hwr hlay hB2 hnr hlen
  obtain ⟨HPJ, HOK, HLEN, HLAY, HBJ, HFR, HB2, HNEAR, HCL, HOFF, HLEFT, HCNT⟩ := hF2.out
  have hq : Hid (∀ k, k < w.heap.size → k ≠ bj ∧ ¬ FT bm vm k) := Lib.hid (fun k hk => ⟨by omega, fun e => by have := HP.out.2.1 k e; omega⟩)
  have HST := Lib.hid (preplace_any HPJ HOK (HTB.out.below HTB.out.pos HB2) (by omega) (by rw [HLEN]; exact HK.out.1) HNEAR.weak (by rw [HLEN]; exact HLAY) (HR.out.keep HB2) hq.out (by have := HE.out.2.2; omega) HE.out.2.1)
  clear HPJ HOK HLEN HLAY HBJ HFR HB2 HNEAR HCL HOFF HLEFT HCNT
  go_wp2_with fail
  refine HST.out.mono ?_
  rintro r w3 ⟨e, m3, s3, FR3, ws3, rfl, hpj3, hs3, hfr3, hwr3, hlay3, hok3, hA, hBB, hC, hD⟩
  obtain ⟨HPJ, HOK, HLEN, HLAY, HBJ, HFR, HB2, HNEAR, HCL, HOFF, HLEFT, HCNT⟩ := hF2.out
  rw [HLEN] at hlay3 hA hBB hC
  obtain ⟨ho3, hle3⟩ := hD HOFF HLEFT
  rcases hC HE.out.1 HOFF with ⟨rfl, hr3⟩ | ⟨_, _, hof⟩
  · have hB3 : Below w.heap.size w w3 := HB2.trans (hs3.below HB2.size fun k hk => by
      rcases hk with rfl | hk | hk
      · exact HBJ
      · exact HP.out.2.1 k hk
      · exact HFR k hk)
    have HF : Hid (FreshPost n rows w (.returned (.tuple #[.pointer (some ⟨bm, 0, none⟩), .pointer (some ⟨bj, 0, none⟩)])) w3) :=
      Lib.hid ⟨bj, bm, vm, m3, s3, FR3, ws3, rfl, ⟨hpj3, hok3, by rw [hwr3.len, HLEN], hlay3, HBJ, HP.out.2.1, fun k hk => (hfr3 k hk).elim (HFR k) fun h => Nat.le_trans HB2.size h⟩, hB3, hwr3.near HNEAR, fun a ha => hwr3.clean (by rw [HLEN]; exact ha) (HCL a ha), hr3, ho3, hle3, by have := hwr3.count; omega⟩
    clear HPJ HOK HLEN HLAY HBJ HFR HB2 HNEAR HCL HOFF HLEFT HCNT hpj3 hs3 hfr3 hwr3 hlay3 hok3 hA hBB hC hD ho3 hle3 hr3 hB3
    go_wp2_with fail
    go_ret2
    exact HF.out
  · rw [ho3] at hof
    cases hof
/-- Are the records replaced, and is the result right? -/
def storeK (el : Int) (on : Bool) (e : Int) : Bool := decide (el = 0) && on && decide (e ≠ 21)
def storeOk (el : Int) (on fuse off : Bool) (e : Int) : Bool := if el ≠ 0 then decide (e = el) else if on = false then decide (e = 21) else if e = 21 then fuse && off else decide (e = 0)
theorem beq_dec (a b : Int) : (a == b) = decide (a = b) := by rw [Bool.eq_iff_iff]; simp
set_option maxHeartbeats 2000000 in
theorem store_any {w : World} {bm : Nat} {vm : Value} {m : Mem} (h : PM w bm vm m) (hm : m.ok) (on fuse : Bool) {G : Nat → Prop} {vnow vnext : Value} {next : List (List Nat)} (hr : RR w G vnext next) (hu : usedL next ≤ 1000000) (e : Int) :
    Calls Tryd.prog 15 #[.pointer (some ⟨bm, 0, none⟩), .bool on, .bool fuse, vnow, vnext, .int .i64 e] w fun r w' =>
      r = .returned (.tuple #[if storeK (errL m.code.length next) on e = true then vnext else vnow, .bool (storeOk (errL m.code.length next) on fuse m.off e)]) ∧ w' = w := by
  have HL := Lib.hid (plen_any h)
  have HO := Lib.hid (pon_any h)
  have HE := Lib.hid (rerror_any m.code.length (by have := hm.most; omega) hr hu)
  clear h hr hu hm
  generalize m.code.length = n at *
  generalize errL n next = el at *
  generalize m.off = off at *
  by_cases h0 : el = 0
  · have h0b : (el != 0) = false := by simp [h0]
    by_cases hon : on = true
    · subst hon
      by_cases h21 : e = 21
      · have h21b : (e == 21) = true := by simp [h21]
        have HK : Hid (storeK el true e = false ∧ storeOk el true fuse off e = (fuse && off)) := Lib.hid ⟨by simp [storeK, h21], by simp [storeOk, h0, h21]⟩
        rw [HK.out.1, HK.out.2, if_neg (by decide)]
        clear h0 h21 HK
        cases fuse with
        | true =>
          go_enter Tryd.func15, Tryd.ntmps15
          go_wp2_with fail
          refine HL.out.mono ?_
          rintro r w1 ⟨rfl, rfl⟩
          go_wp2_with fail
          refine HE.out.mono ?_
          rintro r w1 ⟨rfl, rfl⟩
          go_wp2_with fail
          refine HO.out.mono ?_
          rintro r w1 ⟨rfl, rfl⟩
          go_wp2_with fail
          go_ret2
          exact ⟨rfl, rfl⟩
        | false =>
          go_enter Tryd.func15, Tryd.ntmps15
          go_wp2_with fail
          refine HL.out.mono ?_
          rintro r w1 ⟨rfl, rfl⟩
          go_wp2_with fail
          refine HE.out.mono ?_
          rintro r w1 ⟨rfl, rfl⟩
          go_wp2_with fail
          go_ret2
          exact ⟨rfl, rfl⟩
      · have h21b : (e == 21) = false := by simp [h21]
        have HK : Hid (storeK el true e = true ∧ storeOk el true fuse off e = (e == 0)) := Lib.hid ⟨by simp [storeK, h21, h0], by simp [storeOk, h0, h21, beq_dec]⟩
        rw [HK.out.1, HK.out.2, if_pos rfl]
        clear h0 h21 HK
        go_enter Tryd.func15, Tryd.ntmps15
        go_wp2_with fail
        refine HL.out.mono ?_
        rintro r w1 ⟨rfl, rfl⟩
        go_wp2_with fail
        refine HE.out.mono ?_
        rintro r w1 ⟨rfl, rfl⟩
        go_wp2_with fail
        go_ret2
        exact ⟨rfl, rfl⟩
    · obtain rfl : on = false := by simpa using hon
      have HK : Hid (storeK el false e = false ∧ storeOk el false fuse off e = (e == 21)) := Lib.hid ⟨by simp [storeK], by simp [storeOk, h0, beq_dec]⟩
      rw [HK.out.1, HK.out.2, if_neg (by decide)]
      clear h0 hon HK
      go_enter Tryd.func15, Tryd.ntmps15
      go_wp2_with fail
      refine HL.out.mono ?_
      rintro r w1 ⟨rfl, rfl⟩
      go_wp2_with fail
      refine HE.out.mono ?_
      rintro r w1 ⟨rfl, rfl⟩
      go_wp2_with fail
      go_ret2
      exact ⟨rfl, rfl⟩
  · have h0b : (el != 0) = true := by simp [h0]
    have HK : Hid (storeK el on e = false ∧ storeOk el on fuse off e = (e == el)) := Lib.hid ⟨by simp [storeK, h0], by simp [storeOk, h0, beq_dec]⟩
    rw [HK.out.1, HK.out.2, if_neg (by decide)]
    clear h0 HK
    go_enter Tryd.func15, Tryd.ntmps15
    go_wp2_with fail
    refine HL.out.mono ?_
    rintro r w1 ⟨rfl, rfl⟩
    go_wp2_with fail
    refine HE.out.mono ?_
    rintro r w1 ⟨rfl, rfl⟩
    go_wp2_with fail
    go_ret2
    exact ⟨rfl, rfl⟩
end J
end Go.Proofs.YtnoohhpajoaaoaaDoor
