/-
  The specification's readers: a byte slice.
-/
import Derived.Test.YtdfokmhpnniphaaWRdS
namespace Go.Proofs.Ytdfokmhpnniphaa
open Go.RowKit
namespace W
open H
set_option linter.unusedVariables false

/-- What the reading of a slice or list leaves. -/
def RdPostS (w : World) (B : Nat) (s : St) (k : IntKind) (xs : List Int) (r : Ending) (w' : World) : Prop :=
  ∃ A n c Av cv, r = .returned (.tuple #[rdr A n c s.2, .slice Av xs.length cv]) ∧ s.1.length = n ∧ n ≤ c ∧ c ≤ maxLen ∧ (A = none → c = 0) ∧ RdI w' B .u8 A s.1 ∧ RdI w' w'.heap.size k Av xs ∧ Below w.heap.size w w' ∧ ∀ a, Av = some a → 0 < xs.length → w.heap.size ≤ a.block

theorem post_finS {B : Nat} {w w1 W : World} {A1 Av : Option Addr} {n1 c1 cv : Nat} {sb : List Int} {se : Int} {k : IntKind} {xs : List Int} {x y : Value} (P : sb.length = n1 ∧ n1 ≤ c1 ∧ c1 ≤ maxLen ∧ (A1 = none → c1 = 0) ∧ RdI w1 B .u8 A1 sb) (hBw : B ≤ w.heap.size) (h : Below B w1 W) (hW : Below w.heap.size w W)
    (hv : RdI ((W.setCell ⟨w.heap.size + 1, 0, none⟩ x).setCell ⟨w.heap.size + 1, 1, none⟩ y) W.heap.size k Av xs) (hf : ∀ a, Av = some a → 0 < xs.length → w.heap.size ≤ a.block) :
    RdPostS w B (sb, se) k xs (.returned (.tuple #[.agg #[.slice A1 n1 c1, .int .i64 se], .slice Av xs.length cv])) ((W.setCell ⟨w.heap.size + 1, 0, none⟩ x).setCell ⟨w.heap.size + 1, 1, none⟩ y) :=
  ⟨A1, n1, c1, Av, cv, rfl, P.1, P.2.1, P.2.2.1, P.2.2.2.1, P.2.2.2.2.below (h.trans (below_two (Nat.le_succ_of_le hBw) W x y)), hv.more (by simp), hW.trans (below_two (Nat.le_succ _) W x y), hf⟩

/-- A list in a block of its own stays when another block's cell is set. -/
theorem rdi_set {w : World} {B : Nat} {k : IntKind} {A : Option Addr} {zs : List Int} (h : RdI w B k A zs) {p : Addr} (v : Value) (hp : ∀ ad, A = some ad → p.block ≠ ad.block) : RdI (w.setCell p v) B k A zs := fun j hj => by
  obtain ⟨ad, e, hb, hc⟩ := h j hj
  refine ⟨ad, e, by simpa using hb, ?_⟩
  rw [World.cell?_setCell_other]
  · exact hc
  · exact fun e2 => hp ad e (by rw [e2, add_block])
theorem own_high {w : World} {base n : Nat} {e : TypeId} {A : Option Addr} {c : Nat} {xs : List Value} (h : w.ownsRow base e 1 (.slice A n c) n xs) : ∀ ad, A = some ad → base ≤ ad.block := by
  rintro ad rfl
  rcases h.2 with ⟨hv, _⟩ | ⟨g, cap, _, hv, hb, _⟩
  · cases hv
  · cases hv; exact hb
theorem post_bytes {B base : Nat} {w w1 W : World} {ad : Addr} {n1 c1 su cv : Nat} {Av : Option Addr} {sb : List Int} {x y z : Value} {e : TypeId} (P : sb.length = n1 ∧ n1 ≤ c1 ∧ c1 ≤ maxLen ∧ (some ad = none → c1 = 0) ∧ RdI w1 B .u8 (some ad) sb) (hBw : B ≤ w.heap.size) (h : Below B w1 W) (hW : Below w.heap.size w W) (hsu : su ≤ n1) (hbase : w.heap.size + 1 < base)
    {A' : Option Addr} {c' : Nat} {L : Nat} (hL : n1 - su = L) (hA : (A' = some (ad.add su) ∧ c' = c1 - su) ∨ (n1 ≤ su ∧ c' = 0)) (hv : W.ownsRow base e 1 (.slice Av su cv) su ((sb.take su).map (Value.int .u8))) :
    RdPostS w B (sb.drop su, 0) .u8 (sb.take su) (.returned (.tuple #[.agg #[.slice A' L c', .int .i64 0], .slice Av su cv])) (((W.setCell ⟨w.heap.size, 0, none⟩ z).setCell ⟨w.heap.size + 1, 0, none⟩ x).setCell ⟨w.heap.size + 1, 1, none⟩ y) := by
  obtain ⟨hl1, hc1, hcm1, _, hr1⟩ := P
  subst hL
  have hhi := own_high hv
  have hS : Below w.heap.size W (((W.setCell ⟨w.heap.size, 0, none⟩ z).setCell ⟨w.heap.size + 1, 0, none⟩ x).setCell ⟨w.heap.size + 1, 1, none⟩ y) := (((Below.refl w.heap.size W).setCell (p := ⟨w.heap.size, 0, none⟩) (Nat.le_refl _) z).setCell (p := ⟨w.heap.size + 1, 0, none⟩) (Nat.le_succ _) x).setCell (p := ⟨w.heap.size + 1, 1, none⟩) (Nat.le_succ _) y
  have htl : (sb.take su).length = su := by rw [List.length_take]; omega
  refine ⟨A', n1 - su, c', Av, cv, by rw [htl]; rfl, by simp [hl1], ?_, ?_, ?_, ?_, ?_, hW.trans hS, fun a ea _ => by have := hhi a ea; omega⟩
  · rcases hA with ⟨_, e⟩ | ⟨e, _⟩ <;> omega
  · rcases hA with ⟨_, e⟩ | ⟨_, e⟩ <;> omega
  · intro e0
    rcases hA with ⟨e, _⟩ | ⟨_, e⟩
    · rw [e0] at e; cases e
    · exact e
  · rcases hA with ⟨e, _⟩ | ⟨e, _⟩
    · rw [e]
      exact (RdI.cut hr1 su).below (h.trans (hS.mono hBw))
    · have e1 : sb.drop su = [] := List.drop_of_length_le (by omega)
      rw [e1]
      exact RdI.nil
  · have h1 : RdI W W.heap.size .u8 Av (sb.take su) := own_RdI (by rw [htl] at *; exact hv)
    refine (rdi_set (rdi_set (rdi_set h1 z ?_) x ?_) y ?_).more (by simp)
    all_goals
      intro a ea
      have := hhi a ea
      simp only [ne_eq]
      omega

set_option maxRecDepth 100000 in
set_option maxHeartbeats 1000000 in
theorem rdbytes_any (B : Nat) (A : Option Addr) (n c : Nat) (bs : List Int) (e m : Int) (w : World) (hm : -9223372036854775808 ≤ m ∧ m ≤ 9223372036854775807) (hBw : B ≤ w.heap.size) (hb : Byt bs) (hl : bs.length = n) (hn : n ≤ 140737488351232) (hc : n ≤ c) (hcm : c ≤ maxLen) (hnil : A = none → c = 0) (hr : RdI w B .u8 A bs) :
    Calls Try.prog 27 #[rdr A n c e, .int .i64 m] w (RdPostS w B (rB (bs, e) m).1 .u8 (rB (bs, e) m).2) := by
  have hBL : Below w.heap.size w ((w.alloc (.cells #[.slice A n c, .int .i64 e] 35)).alloc (.cells #[.slice none 0 0, .int .i64 0] 35)) := ((Below.refl _ _).alloc (Nat.le_refl _) _).alloc (by simp) _
  have hu := rdsize_any B A n c bs e m ((w.alloc (.cells #[.slice A n c, .int .i64 e] 35)).alloc (.cells #[.slice none 0 0, .int .i64 0] 35)) hm (Nat.le_trans hBw hBL.size) hb hl hn hc hcm hnil (hr.below (hBL.mono hBw))
  unfold rB
  have hsl : (rS (bs, e) m).1.1.length ≤ n := by rw [← hl]; exact rS_len hb e m
  generalize rS (bs, e) m = s at hu hsl ⊢
  obtain ⟨⟨sb, se⟩, su⟩ := s
  have hsl : sb.length ≤ n := hsl
  clear hb hl hnil hr hBL hcm hm
  obtain ⟨i0, hi, hz0, hz1, hz2⟩ := info_parts infoB
  by_cases hse : se = 0
  · have g1 : (se == 0) = true := by simpa using hse
    have g2 : (se != 0) = false := by simpa using hse
    by_cases hlt : sb.length < su
    · rw [if_neg (by simpa using hse), if_pos hlt]
      have hlt' : (sb.length : Int) < (su : Int) := by omega
      subst hse
      unfold rdr at hu ⊢
      go_enter Try.func27, Try.ntmps27
      go_wp2_with fail
      refine hu.mono ?_
      clear hu
      rintro x w1 ⟨A1, n1, c1, rfl, hl1, hc1, hcm1, hnil1, hr1, hb1⟩
      have hn1 : n1 < su := by rw [← hl1]; exact hlt
      have P1 := Lib.hid (And.intro hl1 (And.intro hc1 (And.intro hcm1 (And.intro hnil1 hr1))))
      clear hl1 hc1 hcm1 hnil1 hr1 hlt hlt' hsl
      obtain ⟨W2, hW2, h2, hB12, hB2⟩ := rebind (.slice A1 n1 c1) (.int .i64 0) hb1
      obtain ⟨hcl, hfr⟩ := bcell hb1
      have hz1 : w.heap.size + 1 < w1.heap.size := by have := hb1.size; simp at this; omega
      obtain ⟨q0, q1, q2, q3, f0, f1, f2, f3, hs2⟩ := h2
      unfold rdr
      go_wp2_with fail
      refine (fail0 A1 n1 c1 6 W2).mono ?_
      rintro x w3 ⟨rfl, hb3⟩
      obtain ⟨W4, hW4, h4, hB24⟩ := rebind2 (B := w.heap.size) ⟨q0, q1, q2, q3, f0, f1, f2, f3, hs2⟩ (Nat.le_refl _) hb3 (.slice A1 n1 c1) (.int .i64 6)
      obtain ⟨p0, p1, p2, p3, e0, e1, e2, e3, hs4⟩ := h4
      obtain ⟨s0, s1, s2, s3, t0, t1, t2, t3, hs3⟩ := Two.step ⟨q0, q1, q2, q3, f0, f1, f2, f3, hs2⟩ hb3
      clear hW2 hcl hfr q0 q1 q2 q3 f0 f1 f2 f3 hz1
      go_wp2
      refine bodyPost_ret (v := .tuple #[.agg #[.slice A1 n1 c1, .int .i64 6], .slice none 0 0]) (by simp [results, Try.results27, go_sem, p2, p3]) rfl ?_
      exact post_finS P1.out hBw ((hB12.mono hBw).trans (hB24.mono hBw)) (hB2.trans hB24) RdI.nil (fun _ _ h => absurd h (by simp))
    · rw [if_neg (by simpa using hse), if_neg hlt]
      subst hse
      unfold rdr at hu ⊢
      have hnu : su ≤ sb.length := by omega
      clear hlt
      go_enter Try.func27, Try.ntmps27
      go_wp2_with fail
      refine hu.mono ?_
      clear hu
      rintro x w1 ⟨A1, n1, c1, rfl, hl1, hc1, hcm1, hnil1, hr1, hb1⟩
      have hl1' : sb.length = n1 := hl1
      have hn1 : su ≤ n1 := by omega
      have hn1b : n1 ≤ 140737488351232 := by omega
      have HL1 := Lib.hid hl1'
      clear hl1'
      have hc1' := hc1
      have hcm1' : c1 ≤ 9223372036854775807 := hcm1
      have P1 := Lib.hid (And.intro hl1 (And.intro hc1 (And.intro hcm1 (And.intro hnil1 hr1))))
      clear hl1 hc1 hcm1 hnil1 hr1 hnu hsl
      obtain ⟨W2, hW2, h2, hB12, hB2⟩ := rebind (.slice A1 n1 c1) (.int .i64 0) hb1
      obtain ⟨hcl, hfr⟩ := bcell hb1
      have hzz : w.heap.size + 1 < w1.heap.size := by have := hb1.size; simp at this; omega
      obtain ⟨q0, q1, q2, q3, f0, f1, f2, f3, hs2⟩ := h2
      unfold rdr
      have hs2' : w.heap.size < W2.heap.size := by omega
      have hB3 : Below W2.heap.size W2 (W2.alloc (.cells #[] 5)) := (Below.refl _ W2).alloc (Nat.le_refl _) _
      have hlit := World.ownsRow_lit (base := W2.heap.size) (e := 5) (size := 1) W2 #[] 0 (Nat.le_refl _) (by unfold maxLen; omega) (by simp)
      have HLIT := Lib.hid hlit
      clear hlit
      rcases A1 with _ | ad
      · obtain rfl : c1 = 0 := P1.out.2.2.2.1 rfl
        have hn0 : n1 ≤ 0 := by omega
        obtain rfl : n1 = 0 := by omega
        obtain rfl : su = 0 := by omega
        go_wp2_with (at_builtin; go_must (refine wpList_append_own_none rfl _ _ 24 rfl W2.heap.size 5 i0 1 Try.underlying24 hi _ _ _ rfl HLIT.out rfl ?_))
        refine bodyPost_ret (v := .tuple #[.agg #[.slice none 0 0, .int .i64 0], .slice (some ⟨W2.heap.size, 0, none⟩) 0 0]) (by simp [results, Try.results27, go_sem, hs2, q2, q3]) rfl ?_
        have hBB := (((((Below.refl w.heap.size W2).setCell (p := ⟨w.heap.size, 0, none⟩) (Nat.le_refl _) (.slice none 0 0)).setCell (p := ⟨w.heap.size + 1, 0, none⟩) (Nat.le_succ _) (.slice none 0 0)).setCell (p := ⟨w.heap.size + 1, 1, none⟩) (Nat.le_succ _) (.int .i64 0)).alloc (by simp; omega) (.cells #[] 5))
        exact ⟨none, 0, 0, some ⟨W2.heap.size, 0, none⟩, 0, by simp [rdr], by simp [HL1.out], Nat.le_refl _, by unfold maxLen; omega, fun _ => rfl, (P1.out.2.2.2.2.below (hB12.mono hBw)).below (hBB.mono hBw), RdI.nil, hB2.trans hBB, fun a ea _ => by injection ea with ea; subst ea; exact Nat.le_of_lt hs2'⟩
      · have hnews := ((P1.out.2.2.2.2.below (hB12.mono hBw)).below (hB3.mono (by omega))).news su
        have hnl : ((sb.take su).map (Value.int .u8)).length = su * 1 := by rw [List.length_map, List.length_take, HL1.out]; omega
        have HN := Lib.hid hnews
        have HNL := Lib.hid hnl
        have H2 := Lib.hid (Two.mk q0 q1 q2 q3 f0 f1 f2 f3 hs2)
        clear hnews hnl
        rcases Nat.lt_or_ge su c1 with hck | hck
        · go_wp2_with (at_builtin; go_must (refine wpList_append_own _ rfl _ _ 24 rfl W2.heap.size 5 i0 (.int .u8 0) 1 1 Try.underlying24 hi hz0 hz1 hz2 rfl (by decide) _ 0 [] rfl HLIT.out ad su c1 ((sb.take su).map (Value.int .u8)) rfl HNL.out HN.out (one_cells _ _) (by unfold maxLen; omega) (by omega) (by simp) ?_; intro v' w5 hown' hgrow _; have hb5 := hB3.grown hgrow (by simp) (fun j e => by cases e; exact Nat.le_refl _); obtain ⟨s0, s1, s2, s3, t0, t1, t2, t3, hs3⟩ := Two.step H2.out hb5; obtain ⟨Av, cv, rfl⟩ := own_shape hown'; have HOW := Lib.hid hown'; clear hown' hgrow hW2 hcl hfr q0 q1 q2 q3 f0 f1 f2 f3))
          refine bodyPost_ret (v := .tuple #[.agg #[.slice (some (ad.add su)) (n1 - su) (c1 - su), .int .i64 0], .slice Av su cv]) (by simp [results, Try.results27, go_sem, s2, s3]) rfl ?_
          have HOW2 := HOW.out
          simp only [Nat.zero_add, List.nil_append] at HOW2
          exact post_bytes (base := W2.heap.size) P1.out hBw ((hB12.mono hBw).trans (hb5.mono (by omega))) (hB2.trans (hb5.mono (by omega))) hn1 (by omega) rfl (.inl ⟨rfl, rfl⟩) HOW2
        · obtain rfl : su = n1 := by omega
          obtain rfl : su = c1 := by omega
          go_wp2_with (at_builtin; go_must (refine wpList_append_own _ rfl _ _ 24 rfl W2.heap.size 5 i0 (.int .u8 0) 1 1 Try.underlying24 hi hz0 hz1 hz2 rfl (by decide) _ 0 [] rfl HLIT.out ad su su ((sb.take su).map (Value.int .u8)) rfl HNL.out HN.out (one_cells _ _) (by unfold maxLen; omega) (by omega) (by simp) ?_; intro v' w5 hown' hgrow _; have hb5 := hB3.grown hgrow (by simp) (fun j e => by cases e; exact Nat.le_refl _); obtain ⟨s0, s1, s2, s3, t0, t1, t2, t3, hs3⟩ := Two.step H2.out hb5; obtain ⟨Av, cv, rfl⟩ := own_shape hown'; have HOW := Lib.hid hown'; clear hown' hgrow hW2 hcl hfr q0 q1 q2 q3 f0 f1 f2 f3))
          refine bodyPost_ret (v := .tuple #[.agg #[.slice (some ad) 0 0, .int .i64 0], .slice Av su cv]) (by simp [results, Try.results27, go_sem, s2, s3]) rfl ?_
          have HOW2 := HOW.out
          simp only [Nat.zero_add, List.nil_append] at HOW2
          exact post_bytes (base := W2.heap.size) P1.out hBw ((hB12.mono hBw).trans (hb5.mono (by omega))) (hB2.trans (hb5.mono (by omega))) hn1 (by omega) (Nat.sub_self _) (.inr ⟨Nat.le_refl _, rfl⟩) HOW2
  · have g1 : (se == 0) = false := by simpa using hse
    have g2 : (se != 0) = true := by simpa using hse
    rw [if_pos (by simpa using hse)]
    have HSE := Lib.hid hse
    clear hse hsl
    unfold rdr at hu ⊢
    go_enter Try.func27, Try.ntmps27
    go_wp2_with fail
    refine hu.mono ?_
    clear hu
    rintro x w1 ⟨A1, n1, c1, rfl, hl1, hc1, hcm1, hnil1, hr1, hb1⟩
    have P1 := Lib.hid (And.intro hl1 (And.intro hc1 (And.intro hcm1 (And.intro hnil1 hr1))))
    clear hl1 hc1 hcm1 hnil1 hr1
    obtain ⟨W2, hW2, h2, hB12, hB2⟩ := rebind (.slice A1 n1 c1) (.int .i64 se) hb1
    obtain ⟨hcl, hfr⟩ := bcell hb1
    have hz1 : w.heap.size + 1 < w1.heap.size := by have := hb1.size; simp at this; omega
    obtain ⟨q0, q1, q2, q3, f0, f1, f2, f3, hs2⟩ := h2
    unfold rdr
    go_wp2
    refine bodyPost_ret (v := .tuple #[.agg #[.slice A1 n1 c1, .int .i64 se], .slice none 0 0]) (by simp [results, Try.results27, go_sem, q2, q3]) rfl ?_
    exact post_finS P1.out hBw (hB12.mono hBw) hB2 RdI.nil (fun _ _ h => absurd h (by simp))

end W
end Go.Proofs.Ytdfokmhpnniphaa
