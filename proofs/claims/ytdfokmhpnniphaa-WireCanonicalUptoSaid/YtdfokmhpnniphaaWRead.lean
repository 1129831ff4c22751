/-
  Reading one item.
-/
import Derived.Test.YtdfokmhpnniphaaWWr
namespace Go.Proofs.Ytdfokmhpnniphaa
open Go.RowKit
namespace W
open H
set_option linter.unusedVariables false

/-- What 'read' leaves: an item of the same kind with the value read, its slices in new memory; the Reader behind it. -/
def ReadPost (w : World) (b : Nat) (A : Option Addr) (n c : Nat) (bs : List Int) (x : Itm) (R : St × Val) (r : Ending) (w' : World) : Prop :=
  ∃ y : Itm, r = .returned y.agg ∧ y.Ok ∧ y.k = x.k ∧ y.val = R.2 ∧ y.m = 0 ∧ (x.k ≠ 0 → y.u = 0) ∧ (x.k ≠ 1 → y.i = 0) ∧ (x.k ≠ 2 → y.bs = [] ∧ y.bA = none) ∧ ((x.k = 0 ∨ x.k = 1 ∨ x.k = 2) → y.ls = [] ∧ y.lA = none) ∧
    RdI w' w'.heap.size .u8 y.bA y.bs ∧ RdI w' w'.heap.size .i64 y.lA y.ls ∧ (∀ a, y.bA = some a → w.heap.size ≤ a.block ∧ a.block < w'.heap.size) ∧ (∀ a, y.lA = some a → w.heap.size ≤ a.block ∧ a.block < w'.heap.size) ∧
    ∃ k' e', RAt w' b A n c bs k' e' ∧ StOf bs k' e' R.1 ∧ Save (· = b) w w'

theorem cells6 {w : World} {b : Nat} {T : TypeId} {v0 v1 v2 v3 v4 v5 : Value} (h : w.heap[b]? = some (.cells #[v0, v1, v2, v3, v4, v5] T (0, 0))) :
    w.cell? ⟨b, 0, none⟩ = some v0 ∧ w.cell? ⟨b, 1, none⟩ = some v1 ∧ w.cell? ⟨b, 2, none⟩ = some v2 ∧ w.cell? ⟨b, 3, none⟩ = some v3 ∧ w.cell? ⟨b, 4, none⟩ = some v4 ∧ w.cell? ⟨b, 5, none⟩ = some v5 :=
  ⟨by rw [blk_cell h]; rfl, by rw [blk_cell h]; rfl, by rw [blk_cell h]; rfl, by rw [blk_cell h]; rfl, by rw [blk_cell h]; rfl, by rw [blk_cell h]; rfl⟩
theorem frozen6 {w : World} {b : Nat} {T : TypeId} {cs : Array Value} (h : w.heap[b]? = some (.cells cs T (0, 0))) :
    w.frozen? ⟨b, 0, none⟩ = false ∧ w.frozen? ⟨b, 1, none⟩ = false ∧ w.frozen? ⟨b, 2, none⟩ = false ∧ w.frozen? ⟨b, 3, none⟩ = false ∧ w.frozen? ⟨b, 4, none⟩ = false ∧ w.frozen? ⟨b, 5, none⟩ = false :=
  ⟨blk_frozen h _, blk_frozen h _, blk_frozen h _, blk_frozen h _, blk_frozen h _, blk_frozen h _⟩
/-- One cell of block q and six of block p are set. -/
theorem set7 (w : World) (p q j : Nat) (u v0 v1 v2 v3 v4 v5 : Value) : Save (fun k => k = p ∨ k = q) w (((((((w.setCell ⟨q, j, none⟩ u).setCell ⟨p, 0, none⟩ v0).setCell ⟨p, 1, none⟩ v1).setCell ⟨p, 2, none⟩ v2).setCell ⟨p, 3, none⟩ v3).setCell ⟨p, 4, none⟩ v4).setCell ⟨p, 5, none⟩ v5) :=
  ((((((((Save.refl (fun k => k = p ∨ k = q) w).setCell (p := ⟨q, j, none⟩) (.inr rfl) _).setCell (p := ⟨p, 0, none⟩) (.inl rfl) _).setCell (p := ⟨p, 1, none⟩) (.inl rfl) _).setCell (p := ⟨p, 2, none⟩) (.inl rfl) _).setCell (p := ⟨p, 3, none⟩) (.inl rfl) _).setCell (p := ⟨p, 4, none⟩) (.inl rfl) _).setCell (p := ⟨p, 5, none⟩) (.inl rfl) _)

theorem read_fin {w w0 w1 W : World} {b : Nat} {A : Option Addr} {n c : Nat} {bs : List Int} {k k' : Nat} {e e' : Int} (h : RAt w b A n c bs k e) (hw : Below w.heap.size w w0) (hR : RAt w1 b A n c bs k' e') (hV : Save (· = b) w0 w1) (hW : Save (fun k => k = w.heap.size + 1 ∨ k = w.heap.size + 1 + 1) w1 W) :
    RAt W b A n c bs k' e' ∧ Save (· = b) w W := by
  have hV2 : Save (· = b) w w1 := (Save.of_below _ hw).trans hV
  have hB : Below w.heap.size w1 W := hW.below hV2.size (fun k hk => by omega)
  exact ⟨hR.keep hB.size (hB.block _ (blk_lt h.blk)) (fun a ha => hB.block _ (h.inb a ha)), hV2.upto hB⟩

def Bok (A : Option Addr) (c : Nat) (zs : List Int) (P : Int → Prop) : Prop := zs.length ≤ c ∧ c ≤ maxLen ∧ (A = none → c = 0) ∧ ∀ z ∈ zs, P z
theorem Bok.nil (P : Int → Prop) : Bok none 0 [] P := ⟨Nat.le_refl _, by decide, fun _ => rfl, fun x hx => by cases hx⟩
theorem Ok.of {k i : Int} {u : Nat} {bA lA : Option Addr} {bc lc : Nat} {bs ls : List Int} (hk : -9223372036854775808 ≤ k ∧ k ≤ 9223372036854775807) (hu : u < 18446744073709551616) (hi : -9223372036854775808 ≤ i ∧ i ≤ 9223372036854775807)
    (hb : Bok bA bc bs fun b => 0 ≤ b ∧ b < 256) (hl : Bok lA lc ls fun z => -9223372036854775808 ≤ z ∧ z ≤ 9223372036854775807) : Itm.Ok ⟨k, u, i, bA, bs.length, bc, bs, lA, ls.length, lc, ls, 0⟩ :=
  ⟨hk, hu, hi, (by show -9223372036854775808 ≤ (0 : Int) ∧ (0 : Int) ≤ 9223372036854775807; decide), rfl, hb.1, hb.2.1, hb.2.2.1, hb.2.2.2, rfl, hl.1, hl.2.1, hl.2.2.1, hl.2.2.2⟩

theorem StOf.byt {w : World} {b : Nat} {A : Option Addr} {n c : Nat} {bs : List Int} {k : Nat} {e : Int} {s : St} (h : RAt w b A n c bs k e) (hs : StOf bs k e s) (h0 : s.2 = 0) : Byt s.1 := by
  rw [hs.2 (by rw [← hs.1, h0])]
  exact fun x hx => h.byt x (List.mem_of_mem_drop hx)
theorem rU_lt' {s : St} (h : s.2 = 0 → Byt s.1) : (rU s).2 < 18446744073709551616 := by
  obtain ⟨s1, s2⟩ := s
  by_cases h0 : s2 = 0
  · exact rU_lt (h h0) _
  · rw [rU_err h0]
    show 0 < 18446744073709551616
    decide
theorem rU_byt' {s : St} (h : s.2 = 0 → Byt s.1) : (rU s).1.2 = 0 → Byt (rU s).1.1 := by
  obtain ⟨s1, s2⟩ := s
  by_cases h0 : s2 = 0
  · exact fun _ => rU_byt (h h0) _
  · rw [rU_err h0]
    exact fun h => absurd h h0
theorem rS_byt' {s : St} (h : s.2 = 0 → Byt s.1) (m : Int) : (rS s m).1.2 = 0 → Byt (rS s m).1.1 := by
  have := rU_byt' h
  unfold rS
  split
  · exact this
  · split
    · intro h; cases h
    · exact this
theorem rB_byt {s : St} (h : s.2 = 0 → Byt s.1) (m : Int) : Byt (rB s m).2 := by
  have := rS_byt' h m
  unfold rB
  split
  · exact fun x hx => by cases hx
  · rename_i h1
    split
    · exact fun x hx => by cases hx
    · exact fun x hx => this (by simpa using h1) x (List.mem_of_mem_take hx)
theorem rN_range : ∀ (n : Nat) (s : St), (s.2 = 0 → Byt s.1) → ∀ z ∈ (rN s n).2, -9223372036854775808 ≤ z ∧ z ≤ 9223372036854775807
  | 0, s, _, z, hz => by cases hz
  | n + 1, s, h, z, hz => by
    rw [rN] at hz
    split at hz
    · cases hz
    · rcases List.mem_cons.1 hz with rfl | hz
      · exact zag_range (rU_lt' h)
      · exact rN_range n (rI s).1 (rU_byt' h) z hz
theorem rL_range {s : St} (h : s.2 = 0 → Byt s.1) (m : Int) : ∀ z ∈ (rL s m).2, -9223372036854775808 ≤ z ∧ z ≤ 9223372036854775807 := by
  unfold rL
  split
  · exact fun x hx => by cases hx
  · exact rN_range _ _ (rS_byt' h m)

set_option maxRecDepth 100000 in
set_option maxHeartbeats 4000000 in
theorem read_any {w : World} {b : Nat} {A : Option Addr} {n c : Nat} {bs : List Int} {k : Nat} {e : Int} {s : St} (x : Itm) (m : Int) (hm : -9223372036854775808 ≤ m ∧ m ≤ 9223372036854775807) (hx : x.Ok) (hsz : s.2 = 0 → s.1.length ≤ 17592186044000) (h : RAt w b A n c bs k e) (hs : StOf bs k e s) :
    Calls Try.prog 30 #[.pointer (some ⟨b, 0, none⟩), x.agg, .int .i64 m] w (ReadPost w b A n c bs x (rV s m x.val)) := by
  have hbyt := StOf.byt h hs
  unfold Itm.agg
  generalize hw0 : ((w.alloc (.cells #[.int .i64 x.k, .int .u64 x.u, .int .i64 x.i, .slice x.bA x.bn x.bc, .slice x.lA x.ln x.lc, .int .i64 x.m] 53)).alloc (.cells #[.int .i64 0, .int .u64 0, .int .i64 0, .slice none 0 0, .slice none 0 0, .int .i64 0] 53)).alloc (.cells #[.int .i64 x.k, .int .u64 0, .int .i64 0, .slice none 0 0, .slice none 0 0, .int .i64 0] 53) = w0
  have hB0 : Below w.heap.size w w0 := by rw [← hw0]; exact (((Below.refl _ w).alloc (Nat.le_refl _) _).alloc (by simp) _).alloc (by simp; omega) _
  have hR0 : RAt w0 b A n c bs k e := h.keep hB0.size (hB0.block _ (blk_lt h.blk)) (fun a ha => hB0.block _ (h.inb a ha))
  have hs0 : w0.heap.size = w.heap.size + 3 := by rw [← hw0]; simp
  have hk1 : w0.heap[w.heap.size + 1]? = some (.cells #[.int .i64 0, .int .u64 0, .int .i64 0, .slice none 0 0, .slice none 0 0, .int .i64 0] 53 (0, 0)) := by
    rw [← hw0, Below.heap_alloc _ _ _ (by simp)]
    have := heap_alloc_new (w.alloc (.cells #[.int .i64 x.k, .int .u64 x.u, .int .i64 x.i, .slice x.bA x.bn x.bc, .slice x.lA x.ln x.lc, .int .i64 x.m] 53)) (.cells #[.int .i64 0, .int .u64 0, .int .i64 0, .slice none 0 0, .slice none 0 0, .int .i64 0] 53)
    simpa using this
  have hk2 : w0.heap[w.heap.size + 1 + 1]? = some (.cells #[.int .i64 x.k, .int .u64 0, .int .i64 0, .slice none 0 0, .slice none 0 0, .int .i64 0] 53 (0, 0)) := by
    rw [← hw0]
    have := heap_alloc_new ((w.alloc (.cells #[.int .i64 x.k, .int .u64 x.u, .int .i64 x.i, .slice x.bA x.bn x.bc, .slice x.lA x.ln x.lc, .int .i64 x.m] 53)).alloc (.cells #[.int .i64 0, .int .u64 0, .int .i64 0, .slice none 0 0, .slice none 0 0, .int .i64 0] 53)) (.cells #[.int .i64 x.k, .int .u64 0, .int .i64 0, .slice none 0 0, .slice none 0 0, .int .i64 0] 53)
    simpa using this
  have hbl := blk_lt h.blk
  have HW0 := Lib.hid hw0
  have HH := Lib.hid h
  have HX := Lib.hid hx
  have HB0 := Lib.hid hB0
  have HY := Lib.hid hbyt
  have HS0 := Lib.hid hs0
  have old : ∀ (w1 : World), Save (· = b) w0 w1 → w1.heap[w.heap.size + 1]? = some (.cells #[.int .i64 0, .int .u64 0, .int .i64 0, .slice none 0 0, .slice none 0 0, .int .i64 0] 53 (0, 0)) ∧ w1.heap[w.heap.size + 1 + 1]? = some (.cells #[.int .i64 x.k, .int .u64 0, .int .i64 0, .slice none 0 0, .slice none 0 0, .int .i64 0] 53 (0, 0)) := fun w1 hV =>
    ⟨(hV.block _ (by omega) (by omega)).trans hk1, (hV.block _ (by omega) (by omega)).trans hk2⟩
  have OLD := Lib.hid old
  clear h hx hw0 hB0 hbyt hk1 hk2 hs0 old
  by_cases h0 : x.k = 0
  · have g0 : (x.k == 0) = true := by simpa using h0
    have hcall := uint_rd hR0 hs
    have HLT := Lib.hid (rU_lt' HY.out)
    have H0 := Lib.hid h0
    rw [show x.val = .u x.u from by unfold Itm.val; exact if_pos h0]
    generalize hRV : rV s m (.u x.u) = R
    have HRV := Lib.hid hRV
    clear hRV hR0 hs h0
    go_enter Try.func30, Try.ntmps30
    go_wp2_with fail
    rw [HW0.out]
    refine hcall.mono ?_
    clear hcall
    rintro r w1 ⟨rfl, k', e', hR1, hS1, hV1⟩
    obtain ⟨hp, hq⟩ := OLD.out _ hV1
    obtain ⟨p0, p1, p2, p3, p4, p5⟩ := cells6 hp
    obtain ⟨q0, q1, q2, q3, q4, q5⟩ := cells6 hq
    obtain ⟨r0, r1, r2, r3, r4, r5⟩ := frozen6 hp
    obtain ⟨t0, t1, t2, t3, t4, t5⟩ := frozen6 hq
    have HR1 := Lib.hid hR1
    have HS1 := Lib.hid hS1
    have HV1 := Lib.hid hV1
    clear hR1 hS1 hV1 hp hq
    go_wp2_with fail
    refine bodyPost_ret (v := .agg #[.int .i64 x.k, .int .u64 (rU s).2, .int .i64 0, .slice none 0 0, .slice none 0 0, .int .i64 0]) (by simp [results, Try.results30, go_sem, p0, p1, p2, p3, p4, p5]) rfl ?_
    rw [← HRV.out]
    obtain ⟨hRf, hVf⟩ := read_fin HH.out HB0.out HR1.out HV1.out (set7 w1 (w.heap.size + 1) (w.heap.size + 1 + 1) _ _ _ _ _ _ _ _)
    refine ⟨⟨x.k, (rU s).2, 0, none, 0, 0, [], none, 0, 0, [], 0⟩, rfl, Ok.of HX.out.k HLT.out (by decide) (Bok.nil _) (Bok.nil _), rfl, by unfold Itm.val; exact if_pos H0.out, rfl, fun h => absurd H0.out h, fun _ => rfl, fun _ => ⟨rfl, rfl⟩, fun _ => ⟨rfl, rfl⟩, RdI.nil, RdI.nil, fun a ha => (by cases ha), fun a ha => (by cases ha), k', e', hRf, HS1.out, hVf⟩
  · have g0 : (x.k == 0) = false := by simpa using h0
    have H0 := Lib.hid h0
    by_cases h1 : x.k = 1
    · have g1 : (x.k == 1) = true := by simpa using h1
      have H1 := Lib.hid h1
      have hcall := int_rd hR0 hs
      have HLT := Lib.hid (zag_range (rU_lt' HY.out))
      rw [show x.val = .i x.i from by unfold Itm.val; rw [if_neg h0, if_pos h1]]
      generalize hRV : rV s m (.i x.i) = R
      have HRV := Lib.hid hRV
      clear hRV hR0 hs h0 h1
      go_enter Try.func30, Try.ntmps30
      go_wp2_with fail
      rw [HW0.out]
      refine hcall.mono ?_
      clear hcall
      rintro r w1 ⟨rfl, k', e', hR1, hS1, hV1⟩
      obtain ⟨hp, hq⟩ := OLD.out _ hV1
      obtain ⟨p0, p1, p2, p3, p4, p5⟩ := cells6 hp
      obtain ⟨q0, q1, q2, q3, q4, q5⟩ := cells6 hq
      obtain ⟨r0, r1, r2, r3, r4, r5⟩ := frozen6 hp
      obtain ⟨t0, t1, t2, t3, t4, t5⟩ := frozen6 hq
      have HR1 := Lib.hid hR1
      have HS1 := Lib.hid hS1
      have HV1 := Lib.hid hV1
      clear hR1 hS1 hV1 hp hq
      go_wp2_with fail
      refine bodyPost_ret (v := .agg #[.int .i64 x.k, .int .u64 0, .int .i64 (rI s).2, .slice none 0 0, .slice none 0 0, .int .i64 0]) (by simp [results, Try.results30, go_sem, p0, p1, p2, p3, p4, p5]) rfl ?_
      rw [← HRV.out]
      obtain ⟨hRf, hVf⟩ := read_fin HH.out HB0.out HR1.out HV1.out (set7 w1 (w.heap.size + 1) (w.heap.size + 1 + 1) _ _ _ _ _ _ _ _)
      refine ⟨⟨x.k, 0, (rI s).2, none, 0, 0, [], none, 0, 0, [], 0⟩, rfl, Ok.of HX.out.k (by decide) HLT.out (Bok.nil _) (Bok.nil _), rfl, by unfold Itm.val; rw [if_neg H0.out, if_pos H1.out]; rfl, rfl, fun _ => rfl, fun h => absurd H1.out h, fun _ => ⟨rfl, rfl⟩, fun _ => ⟨rfl, rfl⟩, RdI.nil, RdI.nil, fun a ha => (by cases ha), fun a ha => (by cases ha), k', e', hRf, HS1.out, hVf⟩
    · have g1 : (x.k == 1) = false := by simpa using h1
      have H1 := Lib.hid h1
      by_cases h2 : x.k = 2
      · have g2 : (x.k == 2) = true := by simpa using h2
        have H2 := Lib.hid h2
        have hcall := bytes_rd m hm hR0 hs
        rw [show x.val = .b x.bs from by unfold Itm.val; rw [if_neg h0, if_neg h1, if_pos h2]]
        generalize hRV : rV s m (.b x.bs) = R
        have HRV := Lib.hid hRV
        clear hRV hR0 hs h0 h1 h2
        go_enter Try.func30, Try.ntmps30
        go_wp2_with fail
        rw [HW0.out]
        refine hcall.mono ?_
        clear hcall
        rintro r w1 ⟨v, rfl, ho, k', e', hR1, hS1, hV1⟩
        obtain ⟨Av, cv, rfl⟩ := own_shape ho
        have HO := Lib.hid ho
        clear ho
        obtain ⟨hp, hq⟩ := OLD.out _ hV1
        obtain ⟨p0, p1, p2, p3, p4, p5⟩ := cells6 hp
        obtain ⟨q0, q1, q2, q3, q4, q5⟩ := cells6 hq
        obtain ⟨r0, r1, r2, r3, r4, r5⟩ := frozen6 hp
        obtain ⟨t0, t1, t2, t3, t4, t5⟩ := frozen6 hq
        have HR1 := Lib.hid hR1
        have HS1 := Lib.hid hS1
        have HV1 := Lib.hid hV1
        clear hR1 hS1 hV1 hp hq
        go_wp2_with fail
        refine bodyPost_ret (v := .agg #[.int .i64 x.k, .int .u64 0, .int .i64 0, .slice Av (rB s m).2.length cv, .slice none 0 0, .int .i64 0]) (by simp [results, Try.results30, go_sem, p0, p1, p2, p3, p4, p5]) rfl ?_
        rw [← HRV.out]
        obtain ⟨hRf, hVf⟩ := read_fin HH.out HB0.out HR1.out HV1.out (set7 w1 (w.heap.size + 1) (w.heap.size + 1 + 1) _ _ _ _ _ _ _ _)
        have hs7 := set7 w1 (w.heap.size + 1) (w.heap.size + 1 + 1) 3 (.slice Av (rB s m).2.length cv) (.int .i64 x.k) (.int .u64 0) (.int .i64 0) (.slice Av (rB s m).2.length cv) (.slice none 0 0) (.int .i64 0)
        obtain ⟨_, o1, o2, o3, o4⟩ := own_cap HO.out
        have hG : ∀ a, Av = some a → ¬ (a.block = w.heap.size + 1 ∨ a.block = w.heap.size + 1 + 1) := fun a ha hh => by have := (o4 a ha).1; have := HS0.out; omega
        have hrd := (hs7.rdi (own_RdI HO.out) (Nat.le_refl _) hG).more hs7.size
        refine ⟨⟨x.k, 0, 0, Av, (rB s m).2.length, cv, (rB s m).2, none, 0, 0, [], 0⟩, rfl, Ok.of HX.out.k (by decide) (by decide) ⟨o1, o2, o3, rB_byt HY.out m⟩ (Bok.nil _), rfl, by unfold Itm.val; rw [if_neg H0.out, if_neg H1.out, if_pos H2.out]; rfl, rfl, fun _ => rfl, fun _ => rfl, fun h => absurd H2.out h, fun _ => ⟨rfl, rfl⟩, hrd, RdI.nil, fun a ha => ⟨by have := (o4 a ha).1; have := HS0.out; omega, Nat.lt_of_lt_of_le (o4 a ha).2 hs7.size⟩, fun a ha => (by cases ha), k', e', hRf, HS1.out, hVf⟩
      · have g2 : (x.k == 2) = false := by simpa using h2
        have H2 := Lib.hid h2
        have hcall := ints_rd m hm hsz hR0 hs
        rw [show x.val = .l x.ls from by unfold Itm.val; rw [if_neg h0, if_neg h1, if_neg h2]]
        generalize hRV : rV s m (.l x.ls) = R
        have HRV := Lib.hid hRV
        clear hRV hR0 hs h0 h1 h2
        go_enter Try.func30, Try.ntmps30
        go_wp2_with fail
        rw [HW0.out]
        refine hcall.mono ?_
        clear hcall
        rintro r w1 ⟨v, rfl, ho, k', e', hR1, hS1, hV1⟩
        obtain ⟨Av, cv, rfl⟩ := own_shape ho
        have HO := Lib.hid ho
        clear ho
        obtain ⟨hp, hq⟩ := OLD.out _ hV1
        obtain ⟨p0, p1, p2, p3, p4, p5⟩ := cells6 hp
        obtain ⟨q0, q1, q2, q3, q4, q5⟩ := cells6 hq
        obtain ⟨r0, r1, r2, r3, r4, r5⟩ := frozen6 hp
        obtain ⟨t0, t1, t2, t3, t4, t5⟩ := frozen6 hq
        have HR1 := Lib.hid hR1
        have HS1 := Lib.hid hS1
        have HV1 := Lib.hid hV1
        clear hR1 hS1 hV1 hp hq
        go_wp2_with fail
        refine bodyPost_ret (v := .agg #[.int .i64 x.k, .int .u64 0, .int .i64 0, .slice none 0 0, .slice Av (rL s m).2.length cv, .int .i64 0]) (by simp [results, Try.results30, go_sem, p0, p1, p2, p3, p4, p5]) rfl ?_
        rw [← HRV.out]
        obtain ⟨hRf, hVf⟩ := read_fin HH.out HB0.out HR1.out HV1.out (set7 w1 (w.heap.size + 1) (w.heap.size + 1 + 1) _ _ _ _ _ _ _ _)
        have hs7 := set7 w1 (w.heap.size + 1) (w.heap.size + 1 + 1) 4 (.slice Av (rL s m).2.length cv) (.int .i64 x.k) (.int .u64 0) (.int .i64 0) (.slice none 0 0) (.slice Av (rL s m).2.length cv) (.int .i64 0)
        obtain ⟨_, o1, o2, o3, o4⟩ := own_cap HO.out
        have hG : ∀ a, Av = some a → ¬ (a.block = w.heap.size + 1 ∨ a.block = w.heap.size + 1 + 1) := fun a ha hh => by have := (o4 a ha).1; have := HS0.out; omega
        have hrd := (hs7.rdi (own_RdI HO.out) (Nat.le_refl _) hG).more hs7.size
        refine ⟨⟨x.k, 0, 0, none, 0, 0, [], Av, (rL s m).2.length, cv, (rL s m).2, 0⟩, rfl, Ok.of HX.out.k (by decide) (by decide) (Bok.nil _) ⟨o1, o2, o3, rL_range HY.out m⟩, rfl, by unfold Itm.val; rw [if_neg H0.out, if_neg H1.out, if_neg H2.out]; rfl, rfl, fun _ => rfl, fun _ => rfl, fun _ => ⟨rfl, rfl⟩, fun h => absurd h (by have h0 := H0.out; have h1 := H1.out; have h2 := H2.out; omega), RdI.nil, hrd, fun a ha => (by cases ha), fun a ha => ⟨by have := (o4 a ha).1; have := HS0.out; omega, Nat.lt_of_lt_of_le (o4 a ha).2 hs7.size⟩, k', e', hRf, HS1.out, hVf⟩

end W
end Go.Proofs.Ytdfokmhpnniphaa
