/-
  The specification's Table.
-/
import Derived.Test.YtojflmejkigdiaaQGood
namespace Go.Proofs.Ytojflmejkigdiaa
open Go.RowKit Go.Shelf
namespace Q
open H
set_option linter.unusedVariables false
set_option linter.unusedSimpArgs false
set_option maxRecDepth 100000
/-- A table that a program holds. -/
def OwnT (w : World) (A : Option Addr) (T : List Wn) (c : Nat) : Prop := (A = none ∧ T = [] ∧ c = 0) ∨ ∃ g, A = some ⟨g, 0, none⟩ ∧ T.length ≤ c ∧ c ≤ maxLen ∧ g < w.heap.size ∧ R6 w g T
theorem OwnT.below {w w' : World} {A : Option Addr} {T : List Wn} {c : Nat} (h : OwnT w A T c) (hB : Below w.heap.size w w') : OwnT w' A T c := by
  rcases h with h | ⟨g, h1, h2, h3, h4, h5⟩
  · exact Or.inl h
  · exact Or.inr ⟨g, h1, h2, h3, by have := hB.size; omega, h5.below hB⟩
theorem OwnT.rds {w : World} {A : Option Addr} {T : List Wn} {c : Nat} (h : OwnT w A T c) : RdsWn w w.heap.size A T := by
  rcases h with ⟨rfl, rfl, rfl⟩ | ⟨g, rfl, h2, h3, h4, h5⟩
  · intro j x hx; simp at hx
  · exact h5.rds h4
theorem OwnT.cap {w : World} {A : Option Addr} {T : List Wn} {c : Nat} (h : OwnT w A T c) : T.length ≤ c := by
  rcases h with ⟨rfl, rfl, rfl⟩ | ⟨g, rfl, h2, h3, h4, h5⟩
  · exact Nat.le_refl _
  · exact h2
theorem rinsert_any (T : List Wn) (x : Wn) (A : Option Addr) (c : Nat) (w : World) (hlen : T.length ≤ 60) (h : OwnT w A T c) :
    Calls Try.prog 43 #[.slice A T.length c, x.v] w fun e w' => ∃ A2 c2, e = .returned (.slice A2 (ins T x).length c2) ∧ OwnT w' A2 (ins T x) c2 ∧ Below w.heap.size w w' ∧ (A2 = A ∨ ∀ ad, A2 = some ad → w.heap.size ≤ ad.block) := by
  rcases h with ⟨rfl, rfl, rfl⟩ | ⟨g, rfl, h2, h3, h4, h5⟩
  · exact (rinsert_nil x w).mono fun e w' ⟨g, c, he, h1, h2, h3, h4, h5, h6⟩ => ⟨_, c, he, Or.inr ⟨g, rfl, h1, h2, h3, h4⟩, h5, .inr (fun ad e => by rw [← Option.some.inj e]; exact h6)⟩
  · exact (rinsert_some T x g c w hlen h2 h3 h4 h5).mono fun e w' ⟨g, c, he, h1, h2, h3, h4, h5, h6⟩ => ⟨_, c, he, Or.inr ⟨g, rfl, h1, h2, h3, h4⟩, h5, by
      rcases h6 with rfl | h6
      · exact .inl rfl
      · exact .inr (fun ad e => by rw [← Option.some.inj e]; exact h6)⟩
def mkV (k a b fr d r : Int) : Wn := ⟨1 + k, a, if 1 + k = 2 ∧ a ≥ (if 1 + k = 3 then 0 else b) then a + 1 + (if 1 + k = 3 then 0 else b) else (if 1 + k = 3 then 0 else b), fr, fr + 1 + d, if 1 + k = 3 ∨ 1 + k = 4 then 0 else 1 + r⟩
theorem mkV_fm {k a b fr d r : Int} (hk : 0 ≤ k ∧ k < 4) (ha : 0 ≤ a ∧ a < 4) (hb : 0 ≤ b ∧ b < 4) (hf : 0 ≤ fr ∧ fr < 340) (hd : 0 ≤ d ∧ d < 30) (hr : 0 ≤ r ∧ r < 40) : fm (mkV k a b fr d r) = true := by
  have : k = 0 ∨ k = 1 ∨ k = 2 ∨ k = 3 := by omega
  unfold fm suits mkV
  simp only [decide_eq_true_eq]
  rcases this with rfl | rfl | rfl | rfl
  · refine ⟨by omega, Or.inl ?_⟩; simp; omega
  · refine ⟨by omega, Or.inr (Or.inl ?_)⟩; simp; split <;> omega
  · refine ⟨by omega, Or.inr (Or.inr (Or.inl ?_))⟩; simp
  · refine ⟨by omega, Or.inr (Or.inr (Or.inr ?_))⟩; simp; omega
set_option maxHeartbeats 4000000 in
theorem rtable_own (l : List Int) (A : Option Addr) (c B : Nat) (w : World) (hB : B ≤ w.heap.size) (hn : l.length ≤ 140737488351232) (hr : RdI w B .i64 A l) (hl : ∀ z ∈ l, I64 z) :
    Calls Try.prog 16 #[.slice A l.length c] w fun e w' => ∃ A2 c2 T, e = .returned (.slice A2 T.length c2) ∧ Good T ∧ T.length ≤ 60 ∧ OwnT w' A2 T c2 ∧ Below w.heap.size w w' ∧ (∀ ad, A2 = some ad → w.heap.size ≤ ad.block) := by
  have HP : Hid (∀ W i m, Below w.heap.size w W → 1 ≤ m → m ≤ 9223372036854775807 → Calls Try.prog 42 #[.slice A l.length c, .int .i64 i, .int .i64 m] W fun e w' => e = .returned (.int .i64 (pick l i m)) ∧ w' = W) := Lib.hid (fun W i m hW h1 h2 => pick_any A c B l i m W hn (hr.below (hW.mono hB)) hl h1 h2)
  have HPB := Lib.hid (fun i m (h : 1 ≤ m) => pick_bd l i h)
  clear hr hl
  generalize pick l = P at *
  generalize l.length = n at *
  have hsp := HPB.out 6 300 (by omega)
  have HP6 := Lib.hid (HP.out w 6 300 (Below.refl _ _) (by omega) (by omega))
  generalize hP6 : P 6 300 = s0 at *
  go_enter Try.func16, Try.ntmps16
  go_wp2_with (go_at_call 42; refine HP6.out.mono ?_; rintro e w2 ⟨rfl, hw⟩; rw [hw]; clear hw w2)
  go_loopg [3, 5] (n + 7) (fun g o i wr => ∃ (q : Nat) (A2 : Option Addr) (c2 : Nat) (T : List Wn), o = .slice A2 T.length c2 ∧ i = .int .i64 (q : Nat) ∧ Hid (n + 7 ≤ q + g) ∧ q ≤ n + 7 ∧ Hid (Good T) ∧ T.length ≤ 60 ∧ Hid (OwnT wr A2 T c2 ∧ ∀ ad, A2 = some ad → w.heap.size ≤ ad.block) ∧ Below w.heap.size w wr)
  case atStart => exact ⟨0, none, 0, [], rfl, rfl, Lib.hid (by omega), by omega, Lib.hid Good.nil, by simp, Lib.hid ⟨Or.inl ⟨rfl, rfl, rfl⟩, fun ad e => by cases e⟩, Below.refl _ _⟩
  case round =>
    obtain ⟨q, A2, c2, T, rfl, rfl, HG, hqn, HGD, htl, HOT, hB2⟩ := hrel
    have BEL := Lib.hid hB2
    have HTL := Lib.hid htl
    clear hB2
    have HI := Lib.hid (fun x => rinsert_any T x A2 c2)
    generalize hT : T.length = tl at *
    have HTE := Lib.hid hT
    clear hT
    by_cases hc : q + 5 < n
    · have hci : (q : Int) + 5 < (n : Int) := by omega
      by_cases hc2 : tl < 60
      · have hci2 : (tl : Int) < 60 := by omega
        have hp0 := HPB.out q 4 (by omega)
        have hp1 := HPB.out (q + 1) 4 (by omega)
        have hp2 := HPB.out (q + 2) 4 (by omega)
        have hp3 := HPB.out (q + 3) (40 + s0) (by omega)
        have hp4 := HPB.out (q + 4) 30 (by omega)
        have hp5 := HPB.out (q + 5) 40 (by omega)
        have H0 := Lib.hid (fun W hW => HP.out W q 4 hW (by omega) (by omega))
        have H1 := Lib.hid (fun W hW => HP.out W (q + 1) 4 hW (by omega) (by omega))
        have H2 := Lib.hid (fun W hW => HP.out W (q + 2) 4 hW (by omega) (by omega))
        have H3 := Lib.hid (fun W hW => HP.out W (q + 3) (40 + s0) hW (by omega) (by omega))
        have H4 := Lib.hid (fun W hW => HP.out W (q + 4) 30 hW (by omega) (by omega))
        have H5 := Lib.hid (fun W hW => HP.out W (q + 5) 40 hW (by omega) (by omega))
        generalize P q 4 = k at *
        generalize P (q + 1) 4 = a at *
        generalize P (q + 2) 4 = b at *
        generalize P (q + 3) (40 + s0) = fr at *
        generalize P (q + 4) 30 = d at *
        generalize P (q + 5) 40 = r at *
        go_upto_region 8 with (first
          | (go_at_call 42; with_reducible refine (H0.out _ BEL.out).mono ?_; rintro e w2 ⟨rfl, hw⟩; rw [hw]; clear hw w2)
          | (go_at_call 42; with_reducible refine (H1.out _ BEL.out).mono ?_; rintro e w2 ⟨rfl, hw⟩; rw [hw]; clear hw w2)
          | (go_at_call 42; with_reducible refine (H2.out _ BEL.out).mono ?_; rintro e w2 ⟨rfl, hw⟩; rw [hw]; clear hw w2)
          | (go_at_call 42; with_reducible refine (H3.out _ (BEL.out.alloc BEL.out.size _)).mono ?_; rintro e w2 ⟨rfl, hw⟩; rw [hw]; clear hw w2))
        have w4 : IntKind.i64.wrap ((q : Int) + 4) = (q : Int) + 4 := IntWalk.i64_in _ (by omega)
        have w5 : IntKind.i64.wrap (fr + 1) = fr + 1 := IntWalk.i64_in _ (by omega)
        have w6 : IntKind.i64.wrap (fr + 1 + d) = fr + 1 + d := IntWalk.i64_in _ (by omega)
        go_region_held3 (fun W => W.cell? ⟨wr.heap.size, 3, none⟩ = some (.int .i64 fr)) (with_reducible (first | exact cell_drw (cell_top _ _ _ 3) | exact cell_top _ _ _ 3))
          ((go_at_call 42; with_reducible refine (H4.out _ ((BEL.out.alloc BEL.out.size _).drew)).mono ?_; rintro e w2 ⟨rfl, hw⟩; rw [hw]; clear hw w2))
        have hk4 : k = 0 ∨ (k = 1 ∧ ¬ b ≤ a) ∨ (k = 1 ∧ b ≤ a) ∨ k = 2 ∨ k = 3 := by omega
        have w7 : IntKind.i64.wrap (a + 1) = a + 1 := IntWalk.i64_in _ (by omega)
        have w8 : IntKind.i64.wrap (a + 1 + b) = a + 1 + b := IntWalk.i64_in _ (by omega)
        rcases hk4 with rfl | ⟨rfl, hab⟩ | ⟨rfl, hab⟩ | rfl | rfl
        · skip
          have hX : mkV 0 a b fr d r = ⟨1, a, b, fr, fr + 1 + d, 1 + r⟩ := by unfold mkV; simp; try omega
          have hfm := mkV_fm (k := 0) (by omega) hp1 hp2 (show 0 ≤ fr ∧ fr < 340 by omega) hp4 hp5
          rw [hX] at hfm
          have HX := Lib.hid (fun W hO => HI.out ⟨1, a, b, fr, fr + 1 + d, 1 + r⟩ W HTL.out hO)
          have HFM := Lib.hid (ins_good HGD.out hfm)
          have HLN := Lib.hid (ins_len T ⟨1, a, b, fr, fr + 1 + d, 1 + r⟩)
          clear hX hfm
          go_wp2_with (first
            | (go_at_call 42; with_reducible refine (H5.out _ ((BEL.out.alloc BEL.out.size _).drew)).mono ?_; rintro e w2 ⟨rfl, hw⟩; rw [hw]; clear hw w2)
            | (go_at_call 43; refine (HX.out _ (HOT.out.1.below ((Below.refl _ _).alloc (Nat.le_refl _) _).drew)).mono ?_; rintro e w3 ⟨A3, c3, rfl, hO3, hB3, hF3⟩; have HO3 : Hid (OwnT w3 A3 _ c3 ∧ ∀ ad, A3 = some ad → w.heap.size ≤ ad.block) := Lib.hid ⟨hO3, fun ad e => (by rcases hF3 with h | h; exact HOT.out.2 ad (h.symm.trans e); have h7 := h ad e; have h8 := BEL.out.size; simp at h7; omega)⟩; have HB3 := Lib.hid (bt (((Below.refl _ _).alloc (Nat.le_refl _) _).drew) hB3); clear hO3 hB3 hF3))
          go_roundg (gk - 7)
          case measure => have := HG.out; omega
          case rel => exact ⟨q + 7, A3, c3, _, rfl, by go_num, Lib.hid (by have := HG.out; omega), by omega, HFM, by have := HLN.out; rw [HTE.out] at this; omega, HO3, BEL.out.trans (HB3.out.mono BEL.out.size)⟩
        · skip
          have hX : mkV 1 a b fr d r = ⟨2, a, b, fr, fr + 1 + d, 1 + r⟩ := by unfold mkV; simp; try omega
          have hfm := mkV_fm (k := 1) (by omega) hp1 hp2 (show 0 ≤ fr ∧ fr < 340 by omega) hp4 hp5
          rw [hX] at hfm
          have HX := Lib.hid (fun W hO => HI.out ⟨2, a, b, fr, fr + 1 + d, 1 + r⟩ W HTL.out hO)
          have HFM := Lib.hid (ins_good HGD.out hfm)
          have HLN := Lib.hid (ins_len T ⟨2, a, b, fr, fr + 1 + d, 1 + r⟩)
          clear hX hfm
          go_wp2_with (first
            | (go_at_call 42; with_reducible refine (H5.out _ ((BEL.out.alloc BEL.out.size _).drew)).mono ?_; rintro e w2 ⟨rfl, hw⟩; rw [hw]; clear hw w2)
            | (go_at_call 43; refine (HX.out _ (HOT.out.1.below ((Below.refl _ _).alloc (Nat.le_refl _) _).drew)).mono ?_; rintro e w3 ⟨A3, c3, rfl, hO3, hB3, hF3⟩; have HO3 : Hid (OwnT w3 A3 _ c3 ∧ ∀ ad, A3 = some ad → w.heap.size ≤ ad.block) := Lib.hid ⟨hO3, fun ad e => (by rcases hF3 with h | h; exact HOT.out.2 ad (h.symm.trans e); have h7 := h ad e; have h8 := BEL.out.size; simp at h7; omega)⟩; have HB3 := Lib.hid (bt (((Below.refl _ _).alloc (Nat.le_refl _) _).drew) hB3); clear hO3 hB3 hF3))
          go_roundg (gk - 7)
          case measure => have := HG.out; omega
          case rel => exact ⟨q + 7, A3, c3, _, rfl, by go_num, Lib.hid (by have := HG.out; omega), by omega, HFM, by have := HLN.out; rw [HTE.out] at this; omega, HO3, BEL.out.trans (HB3.out.mono BEL.out.size)⟩
        · skip
          have hX : mkV 1 a b fr d r = ⟨2, a, a + 1 + b, fr, fr + 1 + d, 1 + r⟩ := by unfold mkV; simp; try omega
          have hfm := mkV_fm (k := 1) (by omega) hp1 hp2 (show 0 ≤ fr ∧ fr < 340 by omega) hp4 hp5
          rw [hX] at hfm
          have HX := Lib.hid (fun W hO => HI.out ⟨2, a, a + 1 + b, fr, fr + 1 + d, 1 + r⟩ W HTL.out hO)
          have HFM := Lib.hid (ins_good HGD.out hfm)
          have HLN := Lib.hid (ins_len T ⟨2, a, a + 1 + b, fr, fr + 1 + d, 1 + r⟩)
          clear hX hfm
          go_wp2_with (first
            | (go_at_call 42; with_reducible refine (H5.out _ ((BEL.out.alloc BEL.out.size _).drew)).mono ?_; rintro e w2 ⟨rfl, hw⟩; rw [hw]; clear hw w2)
            | (go_at_call 43; refine (HX.out _ (HOT.out.1.below ((Below.refl _ _).alloc (Nat.le_refl _) _).drew)).mono ?_; rintro e w3 ⟨A3, c3, rfl, hO3, hB3, hF3⟩; have HO3 : Hid (OwnT w3 A3 _ c3 ∧ ∀ ad, A3 = some ad → w.heap.size ≤ ad.block) := Lib.hid ⟨hO3, fun ad e => (by rcases hF3 with h | h; exact HOT.out.2 ad (h.symm.trans e); have h7 := h ad e; have h8 := BEL.out.size; simp at h7; omega)⟩; have HB3 := Lib.hid (bt (((Below.refl _ _).alloc (Nat.le_refl _) _).drew) hB3); clear hO3 hB3 hF3))
          go_roundg (gk - 7)
          case measure => have := HG.out; omega
          case rel => exact ⟨q + 7, A3, c3, _, rfl, by go_num, Lib.hid (by have := HG.out; omega), by omega, HFM, by have := HLN.out; rw [HTE.out] at this; omega, HO3, BEL.out.trans (HB3.out.mono BEL.out.size)⟩
        · skip
          have hX : mkV 2 a b fr d r = ⟨3, a, 0, fr, fr + 1 + d, 0⟩ := by unfold mkV; simp; try omega
          have hfm := mkV_fm (k := 2) (by omega) hp1 hp2 (show 0 ≤ fr ∧ fr < 340 by omega) hp4 hp5
          rw [hX] at hfm
          have HX := Lib.hid (fun W hO => HI.out ⟨3, a, 0, fr, fr + 1 + d, 0⟩ W HTL.out hO)
          have HFM := Lib.hid (ins_good HGD.out hfm)
          have HLN := Lib.hid (ins_len T ⟨3, a, 0, fr, fr + 1 + d, 0⟩)
          clear hX hfm
          go_wp2_with (first
            | (go_at_call 42; with_reducible refine (H5.out _ ((BEL.out.alloc BEL.out.size _).drew)).mono ?_; rintro e w2 ⟨rfl, hw⟩; rw [hw]; clear hw w2)
            | (go_at_call 43; refine (HX.out _ (HOT.out.1.below ((Below.refl _ _).alloc (Nat.le_refl _) _).drew)).mono ?_; rintro e w3 ⟨A3, c3, rfl, hO3, hB3, hF3⟩; have HO3 : Hid (OwnT w3 A3 _ c3 ∧ ∀ ad, A3 = some ad → w.heap.size ≤ ad.block) := Lib.hid ⟨hO3, fun ad e => (by rcases hF3 with h | h; exact HOT.out.2 ad (h.symm.trans e); have h7 := h ad e; have h8 := BEL.out.size; simp at h7; omega)⟩; have HB3 := Lib.hid (bt (((Below.refl _ _).alloc (Nat.le_refl _) _).drew) hB3); clear hO3 hB3 hF3))
          go_roundg (gk - 7)
          case measure => have := HG.out; omega
          case rel => exact ⟨q + 7, A3, c3, _, rfl, by go_num, Lib.hid (by have := HG.out; omega), by omega, HFM, by have := HLN.out; rw [HTE.out] at this; omega, HO3, BEL.out.trans (HB3.out.mono BEL.out.size)⟩
        · skip
          have hX : mkV 3 a b fr d r = ⟨4, a, b, fr, fr + 1 + d, 0⟩ := by unfold mkV; simp; try omega
          have hfm := mkV_fm (k := 3) (by omega) hp1 hp2 (show 0 ≤ fr ∧ fr < 340 by omega) hp4 hp5
          rw [hX] at hfm
          have HX := Lib.hid (fun W hO => HI.out ⟨4, a, b, fr, fr + 1 + d, 0⟩ W HTL.out hO)
          have HFM := Lib.hid (ins_good HGD.out hfm)
          have HLN := Lib.hid (ins_len T ⟨4, a, b, fr, fr + 1 + d, 0⟩)
          clear hX hfm
          go_wp2_with (first
            | (go_at_call 42; with_reducible refine (H5.out _ ((BEL.out.alloc BEL.out.size _).drew)).mono ?_; rintro e w2 ⟨rfl, hw⟩; rw [hw]; clear hw w2)
            | (go_at_call 43; refine (HX.out _ (HOT.out.1.below ((Below.refl _ _).alloc (Nat.le_refl _) _).drew)).mono ?_; rintro e w3 ⟨A3, c3, rfl, hO3, hB3, hF3⟩; have HO3 : Hid (OwnT w3 A3 _ c3 ∧ ∀ ad, A3 = some ad → w.heap.size ≤ ad.block) := Lib.hid ⟨hO3, fun ad e => (by rcases hF3 with h | h; exact HOT.out.2 ad (h.symm.trans e); have h7 := h ad e; have h8 := BEL.out.size; simp at h7; omega)⟩; have HB3 := Lib.hid (bt (((Below.refl _ _).alloc (Nat.le_refl _) _).drew) hB3); clear hO3 hB3 hF3))
          go_roundg (gk - 7)
          case measure => have := HG.out; omega
          case rel => exact ⟨q + 7, A3, c3, _, rfl, by go_num, Lib.hid (by have := HG.out; omega), by omega, HFM, by have := HLN.out; rw [HTE.out] at this; omega, HO3, BEL.out.trans (HB3.out.mono BEL.out.size)⟩
      · have hci2 : ¬ (tl : Int) < 60 := by omega
        go_wp2_with fail
        go_ret
        exact ⟨A2, c2, T, by rw [HTE.out]; rfl, HGD.out, by rw [HTE.out]; exact HTL.out, HOT.out.1, BEL.out, HOT.out.2⟩
    · have hci : ¬ (q : Int) + 5 < (n : Int) := by omega
      go_wp2_with fail
      go_ret
      exact ⟨A2, c2, T, by rw [HTE.out]; rfl, HGD.out, by rw [HTE.out]; exact HTL.out, HOT.out.1, BEL.out, HOT.out.2⟩
theorem rtable_any (l : List Int) (A : Option Addr) (c B : Nat) (w : World) (hB : B ≤ w.heap.size) (hn : l.length ≤ 140737488351232) (hr : RdI w B .i64 A l) (hl : ∀ z ∈ l, I64 z) :
    Calls Try.prog 16 #[.slice A l.length c] w fun e w' => ∃ A2 c2 T, e = .returned (.slice A2 T.length c2) ∧ Good T ∧ T.length ≤ 60 ∧ OwnT w' A2 T c2 ∧ Below w.heap.size w w' :=
  (rtable_own l A c B w hB hn hr hl).mono fun e w' ⟨A2, c2, T, h1, h2, h3, h4, h5, _⟩ => ⟨A2, c2, T, h1, h2, h3, h4, h5⟩
end Q
end Go.Proofs.Ytojflmejkigdiaa
