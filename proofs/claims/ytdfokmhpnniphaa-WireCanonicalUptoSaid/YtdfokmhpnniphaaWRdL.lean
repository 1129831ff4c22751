/-
  The specification's readers: a list of numbers.
-/
import Derived.Test.YtdfokmhpnniphaaWRdB
namespace Go.Proofs.Ytdfokmhpnniphaa
open Go.RowKit
namespace W
open H
set_option linter.unusedVariables false

theorem rd_err0 : ∀ (bs : List Int) (k : Nat) (e : Int), rd k bs = .error e → e ≠ 0
  | [], k, e, h => by rw [rd_nil] at h; cases h; decide
  | c :: r, k, e, h => by
    rw [rd] at h
    split at h
    · cases h; decide
    · split at h
      · cases h
      · split at h
        · cases h; decide
        · split at h
          · cases h
          · rename_i e2 h2
            cases h
            exact rd_err0 r (k + 1) e h2
theorem rI_len {bs : List Int} (hb : Byt bs) (h : (rI (bs, 0)).1.2 = 0) : (rI (bs, 0)).1.1.length + 1 ≤ bs.length := by
  rcases hr : rd 0 bs with x | ⟨n, r⟩
  · unfold rI at h
    rw [rU_no hr] at h
    exact absurd h (rd_err0 bs 0 x hr)
  · unfold rI
    rw [rU_ok hr]
    have h1 := (rd_canon bs 0 n r hb (by omega) hr).1
    have h2 := congrArg List.length h1
    rw [List.length_append] at h2
    have := encU_pos n
    simp only
    omega
theorem rI_byt {bs : List Int} (hb : Byt bs) (e : Int) : Byt (rI (bs, e)).1.1 := rU_byt hb e

/-- k numbers of su have been read: those are xs, or an error stands. -/
def LInv (s : St) (su k : Nat) (cb : List Int) (ce : Int) (xs : List Int) : Prop :=
  k ≤ su ∧ xs.length = k ∧ Byt cb ∧ (ce = 0 → cb.length + k ≤ s.1.length ∧ rN s su = ((rN (cb, 0) (su - k)).1, xs ++ (rN (cb, 0) (su - k)).2)) ∧ (ce ≠ 0 → (rN s su).1 = (cb, ce)) ∧ cb.length ≤ s.1.length
theorem LInv.start {sb : List Int} {se : Int} (hb : Byt sb) (su : Nat) : LInv (sb, se) su 0 sb se [] := by
  refine ⟨Nat.zero_le _, rfl, hb, ?_, ?_, Nat.le_refl _⟩
  · rintro rfl
    exact ⟨Nat.le_refl _, rfl⟩
  · intro h
    exact rN_err h su
theorem LInv.next {s : St} {su k : Nat} {cb : List Int} {xs : List Int} (h : LInv s su k cb 0 xs) (hk : k < su) : LInv s su (k + 1) (rI (cb, 0)).1.1 (rI (cb, 0)).1.2 (xs ++ [(rI (cb, 0)).2]) := by
  obtain ⟨h1, h2, h3, h4, _, h6⟩ := h
  obtain ⟨h4, h5⟩ := h4 rfl
  obtain ⟨j, hj⟩ : ∃ j, su - k = j + 1 := ⟨su - k - 1, by omega⟩
  have hj2 : su - (k + 1) = j := by omega
  have hl := rI_len h3
  have hlu := rU_len h3 0
  rw [hj, rN] at h5
  have he : (rI (cb, 0)).1 = ((rI (cb, 0)).1.1, (rI (cb, 0)).1.2) := rfl
  refine ⟨by omega, by simp [h2], rI_byt h3 0, ?_, ?_, Nat.le_trans hlu h6⟩
  all_goals try rw [hj2]
  · intro h0
    have := hl h0
    refine ⟨by omega, ?_⟩
    rw [if_neg (by simpa using h0)] at h5
    rw [he, h0] at h5
    rw [h5]
    simp
  · intro h0
    rw [if_pos h0] at h5
    rw [h5]
theorem LInv.err {s : St} {m : Int} {k : Nat} {cb : List Int} {ce : Int} {xs : List Int} (h : LInv (rS s m).1 (rS s m).2 k cb ce xs) (h0 : ce ≠ 0) : rL s m = ((cb, ce), []) := by
  have h1 := h.2.2.2.2.1 h0
  unfold rL
  rw [if_pos (by rw [h1]; exact h0), h1]
theorem LInv.fin {s : St} {m : Int} {k : Nat} {cb : List Int} {xs : List Int} (h : LInv (rS s m).1 (rS s m).2 k cb 0 xs) (hk : (rS s m).2 ≤ k) : rL s m = ((cb, 0), xs) := by
  have h1 := (h.2.2.2.1 rfl).2
  have e : (rS s m).2 - k = 0 := by omega
  rw [e, rN] at h1
  unfold rL
  rw [if_neg (by rw [h1]; simp), h1]
  simp

/-- A list of the call's own stays when a cell of an elder block is set. -/
theorem own_set {w : World} {base n : Nat} {e : TypeId} {v : Value} {xs : List Value} (h : w.ownsRow base e 1 v n xs) {p : Addr} (hp : p.block < base) (x : Value) : (w.setCell p x).ownsRow base e 1 v n xs := by
  refine ⟨h.1, ?_⟩
  rcases h.2 with h2 | ⟨g, cap, cur, hv, hg, hh, hr⟩
  · exact .inl h2
  · refine .inr ⟨g, cap, cur, hv, hg, ?_, hr⟩
    rw [← hh]
    simp only [World.setCell, Array.getElem?_modify]
    rw [if_neg (by omega)]

theorem infoI : (Try.prog.info? 3).map (fun i => (i.zero, i.size, i.bytes)) = some (some (.int .i64 0), 1, 8) := by kernel_rfl

/-- The slice of a reader. -/
def RdP (w : World) (B : Nat) (A : Option Addr) (n c : Nat) (bs : List Int) : Prop := bs.length = n ∧ n ≤ c ∧ c ≤ maxLen ∧ (A = none → c = 0) ∧ RdI w B .u8 A bs
theorem RdP.below {w w' : World} {B n c : Nat} {A : Option Addr} {bs : List Int} (h : RdP w B A n c bs) (hb : Below B w w') : RdP w' B A n c bs := ⟨h.1, h.2.1, h.2.2.1, h.2.2.2.1, h.2.2.2.2.below hb⟩

theorem Two.step2 {b : Nat} {W w1 : World} {a0 a1 r0 r1 : Value} (h : Two b W a0 a1 r0 r1) (hb : Below (b + 2) W w1) : Two b w1 a0 a1 r0 r1 := by
  have hs := h.sz
  have hcl : ∀ b' o, b' < b + 2 → w1.cell? ⟨b', o, none⟩ = W.cell? ⟨b', o, none⟩ := fun b' o h => hb.cell (p := ⟨b', o, none⟩) h
  have hfr : ∀ b' o, b' < b + 2 → w1.frozen? ⟨b', o, none⟩ = W.frozen? ⟨b', o, none⟩ := fun b' o h => hb.frozen (p := ⟨b', o, none⟩) h
  exact ⟨by rw [hcl _ _ (by omega)]; exact h.q0, by rw [hcl _ _ (by omega)]; exact h.q1, by rw [hcl _ _ (by omega)]; exact h.q2, by rw [hcl _ _ (by omega)]; exact h.q3,
    by rw [hfr _ _ (by omega)]; exact h.f0, by rw [hfr _ _ (by omega)]; exact h.f1, by rw [hfr _ _ (by omega)]; exact h.f2, by rw [hfr _ _ (by omega)]; exact h.f3, by have := hb.size; omega⟩
theorem post_ints {B : Nat} {w W : World} {A Ao : Option Addr} {n c co : Nat} {cb xs : List Int} {ce : Int} {x y : Value} {e : TypeId} (hP : RdP W B A n c cb) (hBw : B ≤ w.heap.size) (hW : Below w.heap.size w W)
    (hv : W.ownsRow (w.heap.size + 2) e 1 (.slice Ao xs.length co) xs.length (xs.map (Value.int .i64))) :
    RdPostS w B (cb, ce) .i64 xs (.returned (.tuple #[.agg #[.slice A n c, .int .i64 ce], .slice Ao xs.length co])) ((W.setCell ⟨w.heap.size + 1, 0, none⟩ x).setCell ⟨w.heap.size + 1, 1, none⟩ y) :=
  ⟨A, n, c, Ao, co, rfl, hP.1, hP.2.1, hP.2.2.1, hP.2.2.2.1, hP.2.2.2.2.below (below_two (Nat.le_succ_of_le hBw) W x y), own_RdI (own_set (own_set hv (by simp) _) (by simp) _), hW.trans (below_two (Nat.le_succ _) W x y), fun a ea _ => by have := own_high hv a ea; omega⟩

set_option maxRecDepth 100000 in
set_option maxHeartbeats 1000000 in
theorem rdints_any (B : Nat) (A : Option Addr) (n c : Nat) (bs : List Int) (e m : Int) (w : World) (hm : -9223372036854775808 ≤ m ∧ m ≤ 9223372036854775807) (hBw : B ≤ w.heap.size) (hb : Byt bs) (hl : bs.length = n) (hn : n ≤ 17592186044000) (hc : n ≤ c) (hcm : c ≤ maxLen) (hnil : A = none → c = 0) (hr : RdI w B .u8 A bs) :
    Calls Try.prog 28 #[rdr A n c e, .int .i64 m] w (RdPostS w B (rL (bs, e) m).1 .i64 (rL (bs, e) m).2) := by
  have hBL : Below w.heap.size w ((w.alloc (.cells #[.slice A n c, .int .i64 e] 35)).alloc (.cells #[.slice none 0 0, .int .i64 0] 35)) := ((Below.refl _ _).alloc (Nat.le_refl _) _).alloc (by simp) _
  have hu := rdsize_any B A n c bs e m ((w.alloc (.cells #[.slice A n c, .int .i64 e] 35)).alloc (.cells #[.slice none 0 0, .int .i64 0] 35)) hm (Nat.le_trans hBw hBL.size) hb hl (by omega) hc hcm hnil (hr.below (hBL.mono hBw))
  have herr := fun k cb ce xs => LInv.err (s := (bs, e)) (m := m) (k := k) (cb := cb) (ce := ce) (xs := xs)
  have hfin := fun k cb xs => LInv.fin (s := (bs, e)) (m := m) (k := k) (cb := cb) (xs := xs)
  have hsl : (rS (bs, e) m).1.1.length ≤ n := by rw [← hl]; exact rS_len hb e m
  have hsb := rS_byt hb e m
  generalize rL (bs, e) m = R at herr hfin ⊢
  generalize rS (bs, e) m = s at hu hsl hsb herr hfin ⊢
  obtain ⟨⟨sb, se⟩, su⟩ := s
  have hsl : sb.length ≤ n := hsl
  have hst := LInv.start (se := se) hsb su
  have HS := Lib.hid hst
  have HE := Lib.hid herr
  have HF := Lib.hid hfin
  clear hb hl hnil hr hBL hcm hm hsb hst herr hfin
  obtain ⟨i0, hi, hz0, hz1, hz2⟩ := info_parts infoI
  unfold rdr at hu ⊢
  go_enter Try.func28, Try.ntmps28
  go_wp2_with fail
  refine hu.mono ?_
  clear hu
  rintro x w1 ⟨A1, n1, c1, rfl, hl1, hc1, hcm1, hnil1, hr1, hb1⟩
  have P1 := Lib.hid (And.intro hl1 (And.intro hc1 (And.intro hcm1 (And.intro hnil1 hr1))))
  clear hl1 hc1 hcm1 hnil1 hr1
  obtain ⟨W2, hW2, h2, hB12, hB2⟩ := rebind (.slice A1 n1 c1) (.int .i64 se) hb1
  obtain ⟨hcl, hfr⟩ := bcell hb1
  have hzz : w.heap.size + 1 < w1.heap.size := by have := hb1.size; simp at this; omega
  have H2 := Lib.hid h2
  clear h2
  unfold rdr
  go_wp2_with fail
  go_loopw [7, 8] (fun o i wr => ∃ (k : Nat) (Ac : Option Addr) (nc cc : Nat) (cb : List Int) (ce : Int) (xs : List Int), i = .int .i64 k ∧ LInv (sb, se) su k cb ce xs ∧ Two w.heap.size wr (.slice Ac nc cc) (.int .i64 ce) (.slice none 0 0) (.int .i64 0) ∧ RdP wr B Ac nc cc cb ∧ wr.ownsRow (w.heap.size + 2) 3 1 o xs.length (xs.map (Value.int .i64)) ∧ Below w.heap.size w wr) (fun _ i _ => su - (intOf i).toNat)
  case atStart =>
    exact ⟨0, A1, n1, c1, sb, se, [], rfl, HS.out, H2.out, RdP.below P1.out (hB12.mono hBw), World.ownsRow_nil _ _ _ _, hB2⟩
  case round =>
    obtain ⟨k, Ac, nc, cc, cb, ce, xs, rfl, hI, hT, hP, hown, hB⟩ := hrel
    obtain ⟨Ao, co, rfl⟩ := own_shape hown
    have hks := hI.1
    have hxl : xs.length ≤ k := by rw [hI.2.1]; exact Nat.le_refl _
    have HI := Lib.hid hI
    have HT := Lib.hid hT
    have HP := Lib.hid hP
    have HOW := Lib.hid hown
    obtain ⟨q0, q1, q2, q3, f0, f1, f2, f3, hs⟩ := hT
    clear hI hP hown HS H2 P1 hW2 hB12 hB2 hcl hfr hb1
    by_cases hce : ce = 0
    · subst hce
      rcases Nat.lt_or_ge k su with hlt | hge
      · have hcbn : cb.length + k ≤ n := by have := (HI.out.2.2.2.1 rfl).1; simp only at this; omega
        obtain ⟨hl2, hc2, hcm2, hnil2, hr2⟩ := HP.out
        have hcall := rdint_any B Ac nc cc cb 0 wr (Nat.le_trans hBw hB.size) HI.out.2.2.1 hl2 (by omega) hc2 hcm2 hnil2 hr2
        have hnext := HI.out.next hlt
        unfold rdr at hcall
        generalize rI (cb, 0) = t at hcall hnext
        obtain ⟨⟨cb', ce'⟩, x⟩ := t
        have HN := Lib.hid hnext
        clear hl2 hc2 hcm2 hnil2 hr2 hnext
        go_wp2_with fail
        refine hcall.mono ?_
        clear hcall
        rintro r w3 ⟨A3, n3, c3, rfl, hl3, hc3, hcm3, hnil3, hr3, hb3⟩
        have P3 := Lib.hid (And.intro hl3 (And.intro hc3 (And.intro hcm3 (And.intro hnil3 hr3))))
        clear hl3 hc3 hcm3 hnil3 hr3
        obtain ⟨W4, hW4, h4, hB34⟩ := rebind2 (B := w.heap.size) HT.out (Nat.le_refl _) hb3 (.slice A3 n3 c3) (.int .i64 ce')
        obtain ⟨p0, p1, p2, p3, e0, e1, e2, e3, hs4⟩ := Two.step HT.out hb3
        clear q0 q1 q2 q3 f0 f1 f2 f3
        unfold rdr
        have hown4 : W4.ownsRow (w.heap.size + 2) 3 1 (.slice Ao xs.length co) xs.length (xs.map (Value.int .i64)) := by
          rw [← hW4]
          exact own_set (own_set (own_kept_below HOW.out hb3) (by simp) _) (by simp) _
        have H4 := Lib.hid h4
        clear h4
        go_wp2_with (at_builtin; refine wpList_append_own _ rfl _ _ 44 rfl (w.heap.size + 2) 3 i0 (.int .i64 0) 1 8 Try.underlying44 hi hz0 hz1 hz2 rfl (by decide) _ _ _ rfl (hown4.alloc _) ⟨W4.heap.size, 0, none⟩ 1 1 [.int .i64 x] rfl rfl (cell_one_new _ _ _) (by simp [Value.oneCell']) (by unfold maxLen; omega) (by omega) (by have := H4.out.sz; simp; omega) ?_; intro v' w5 hown' hgrow _)
        have hb5 : Below (w.heap.size + 2) W4 w5 := own_below (by have := H4.out.sz; omega) hown4 hgrow
        have hP4 : RdP W4 B A3 n3 c3 cb' := RdP.below P3.out (by rw [← hW4]; exact below_two hBw w3 _ _)
        refine ⟨⟨k + 1, A3, n3, c3, cb', ce', xs ++ [x], by go_num, HN.out, H4.out.step2 hb5, RdP.below hP4 (hb5.mono (by omega)), ?_, (hB.trans hB34).trans (hb5.mono (by omega))⟩, by simp [intOf]; omega⟩
        rw [List.length_append, List.map_append]
        exact hown'
      · obtain rfl := HF.out k cb xs HI.out hge
        go_wp2_with fail
        refine bodyPost_ret (v := .tuple #[.agg #[.slice Ac nc cc, .int .i64 0], .slice Ao xs.length co]) (by simp [results, Try.results28, go_sem, q2, q3]) rfl ?_
        exact post_ints HP.out hBw hB HOW.out
    · have g1 : (ce == 0) = false := by simpa using hce
      have g2 : (ce != 0) = true := by simpa using hce
      rcases Nat.lt_or_ge k su with hlt | hge
      all_goals
        obtain rfl := HE.out k cb ce xs HI.out hce
        clear hce
        go_wp2_with fail
        refine bodyPost_ret (v := .tuple #[.agg #[.slice Ac nc cc, .int .i64 ce], .slice none 0 0]) (by simp [results, Try.results28, go_sem, q2, q3]) rfl ?_
        exact post_ints (xs := []) HP.out hBw hB (World.ownsRow_nil _ _ 3 _)

end W
end Go.Proofs.Ytdfokmhpnniphaa
