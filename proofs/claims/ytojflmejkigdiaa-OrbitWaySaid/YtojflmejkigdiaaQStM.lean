/-
  One hop over some window: the specification's step; its relax and its passes.
-/
import Derived.Test.YtojflmejkigdiaaQLow
namespace Go.Proofs.Ytojflmejkigdiaa
open Go.RowKit
namespace Q
open H
set_option linter.unusedVariables false
set_option linter.unusedSimpArgs false
/-- When a hop over a window ends, if it can be taken. -/
def hopO (x : Wn) (f t k size : Int) : Option Int := if via x f t = true ∧ beg x k + dur x size ≤ x.un then some (beg x k + dur x size) else none
def comb (o h : Option Int) : Option Int := match h with
  | none => o
  | some v => match o with
    | none => some v
    | some m => if v < m then some v else some m
def stp (L : List Wn) (f t k size : Int) : Option Int := L.foldl (fun o x => comb o (hopO x f t k size)) none
theorem stp_step {T : List Wn} {x : Wn} {i : Nat} (f t k size : Int) (h : T[i]? = some x) : stp (T.take (i + 1)) f t k size = comb (stp (T.take i) f t k size) (hopO x f t k size) := by
  unfold stp
  rw [List.take_add_one, h, Option.toList_some, List.foldl_append]
  rfl
theorem comb_fold (f t k size : Int) : ∀ (L : List Wn) (o : Option Int),
    (∀ v, L.foldl (fun o x => comb o (hopO x f t k size)) o = some v → (o = some v ∨ ∃ x ∈ L, hopO x f t k size = some v) ∧ (∀ u, o = some u → v ≤ u) ∧ ∀ x ∈ L, ∀ u, hopO x f t k size = some u → v ≤ u) ∧
    (L.foldl (fun o x => comb o (hopO x f t k size)) o = none → o = none ∧ ∀ x ∈ L, hopO x f t k size = none)
  | [], o => ⟨fun v h => ⟨.inl h, fun u hu => by rw [show o = some v from h] at hu; rw [Option.some.inj hu]; exact Int.le_refl _, fun x hx => by simp at hx⟩, fun h => ⟨h, fun x hx => by simp at hx⟩⟩
  | x :: L, o => by
    obtain ⟨h1, h2⟩ := comb_fold f t k size L (comb o (hopO x f t k size))
    constructor
    · intro v hv
      obtain ⟨a, b, c⟩ := h1 v hv
      refine ⟨?_, ?_, ?_⟩
      · rcases a with a | ⟨y, hy, e⟩
        · unfold comb at a
          split at a
          · exact .inl a
          · rename_i u hu
            split at a
            · exact .inr ⟨x, by simp, by rw [hu]; exact a⟩
            · split at a
              · exact .inr ⟨x, by simp, by rw [hu]; exact a⟩
              · exact .inl a
        · exact .inr ⟨y, by simp [hy], e⟩
      · intro u hu
        subst hu
        unfold comb at b
        split at b
        · exact b u rfl
        · rename_i z hz
          split at b
          · rename_i e; cases e
          · rename_i m e
            obtain rfl := Option.some.inj e
            split at b
            · have := b _ rfl; omega
            · exact b _ rfl
      · intro y hy u hu
        rcases List.mem_cons.1 hy with rfl | hy
        · rw [hu] at b
          unfold comb at b
          dsimp only at b
          split at b
          · exact b _ rfl
          · split at b
            · exact b _ rfl
            · have := b _ rfl; omega
        · exact c y hy u hu
    · intro hn
      obtain ⟨a, b⟩ := h2 hn
      unfold comb at a
      split at a
      · rename_i e
        refine ⟨a, fun y hy => ?_⟩
        rcases List.mem_cons.1 hy with rfl | hy
        · exact e
        · exact b y hy
      · split at a
        · cases a
        · split at a <;> cases a
theorem stp_some {T : List Wn} {f t k size v : Int} (h : stp T f t k size = some v) : (∃ x ∈ T, hopO x f t k size = some v) ∧ ∀ x ∈ T, ∀ u, hopO x f t k size = some u → v ≤ u := by
  obtain ⟨a, _, c⟩ := (comb_fold f t k size T none).1 v h
  rcases a with a | a
  · cases a
  · exact ⟨a, c⟩
theorem stp_none {T : List Wn} {f t k size : Int} (h : stp T f t k size = none) : ∀ x ∈ T, hopO x f t k size = none := ((comb_fold f t k size T none).2 h).2
theorem hop_iff {T : List Wn} (hT : ∀ x ∈ T, fm x = true) {f t k size v : Int} (hf : f < 12) : (∃ x ∈ T, hopO x f t k size = some v) ↔ ∃ h ∈ hl T, h.src = f ∧ h.dst = t ∧ hend' h.w k size = v ∧ v < 1000001 := by
  constructor
  · rintro ⟨x, hx, h⟩
    unfold hopO at h
    split at h
    · rename_i hc
      have hv : beg x k + dur x size = v := Option.some.inj h
      have hvia := hc.1
      unfold via at hvia
      simp only [decide_eq_true_eq] at hvia
      have hlk : lkOk x = true := by unfold lkOk; exact decide_eq_true ⟨hvia.1, hT x hx⟩
      have hlo := lkOk_ok hlk
      have hun := hlo.1.un
      have he : hend' x k size = v := by unfold hend'; rw [if_neg (by omega)]; exact hv
      rcases hvia.2.1 with ⟨h1, h2⟩ | ⟨h1, h2⟩
      · refine ⟨there x, ?_, h1, h2, he, by omega⟩
        rw [hl_eq]
        exact List.mem_flatMap.2 ⟨x, List.mem_filter.2 ⟨hx, hlk⟩, by unfold hopsW; simp⟩
      · refine ⟨back x, ?_, h2, h1, he, by omega⟩
        rw [hl_eq]
        exact List.mem_flatMap.2 ⟨x, List.mem_filter.2 ⟨hx, hlk⟩, by unfold hopsW; rw [if_pos (by omega)]; simp⟩
    · cases h
  · rintro ⟨h, hh, h1, h2, h3, h4⟩
    rw [hl_eq] at hh
    obtain ⟨x, hx, hxy⟩ := List.mem_flatMap.1 hh
    obtain ⟨hx1, hx2⟩ := List.mem_filter.1 hx
    have hlk : lk x = true := by unfold lkOk at hx2; exact (of_decide_eq_true hx2).1
    have hw : h.w = x ∧ via x f t = true := by
      unfold hopsW at hxy
      rcases List.mem_cons.1 hxy with rfl | hxy
      · exact ⟨rfl, by unfold via; exact decide_eq_true ⟨hlk, .inl ⟨h1, h2⟩, hf⟩⟩
      · split at hxy
        · rcases List.mem_singleton.1 hxy with rfl
          exact ⟨rfl, by unfold via; exact decide_eq_true ⟨hlk, .inr ⟨h2, h1⟩, hf⟩⟩
        · simp at hxy
    refine ⟨x, hx1, ?_⟩
    rw [hw.1] at h3
    unfold hend' at h3
    split at h3
    · omega
    · unfold hopO
      rw [if_pos ⟨hw.2, by omega⟩, h3]
/-- A craft from which a node can be reached at its tick. -/
theorem stp_hit {T : List Wn} (hT : ∀ x ∈ T, fm x = true) {craft tick size : Int} {E : List Int} (hs : 1 ≤ size) (hE : Erl T craft tick size E) {m n : Int} (hm : 0 ≤ m ∧ m < 12) (hn : Nd E n) : stp T m n (gt E m) size = some (gt E n) ↔ ∃ h ∈ hl T, h.src = m ∧ h.dst = n ∧ hend' h.w (gt E h.src) size = gt E n := by
  have hcl := cl_erl hs hE
  constructor
  · intro h
    obtain ⟨h, hh, h1, h2, h3, h4⟩ := (hop_iff hT hm.2).1 (stp_some h).1
    exact ⟨h, hh, h1, h2, by rw [h1]; exact h3⟩
  · rintro ⟨h, hh, h1, h2, h3⟩
    rw [h1] at h3
    obtain ⟨x, hx, hxo⟩ := (hop_iff hT hm.2).2 ⟨h, hh, h1, h2, h3, hn.tk.2⟩
    cases hq : stp T m n (gt E m) size with
    | none => rw [stp_none hq x hx] at hxo; cases hxo
    | some v =>
      obtain ⟨h5, h6⟩ := stp_some hq
      have h7 := h6 x hx _ hxo
      obtain ⟨g, hg, g1, g2, g3, g4⟩ := (hop_iff hT hm.2).1 h5
      have h8 := hcl g hg
      dsimp only at h8
      rw [g1, g2, g3] at h8
      have : v = gt E n := by omega
      rw [this]
theorem stp_before {T : List Wn} (hT : ∀ x ∈ T, fm x = true) {craft tick size : Int} {E : List Int} (hs : 1 ≤ size) (hc : 0 ≤ craft ∧ craft < 12) (ht : 0 ≤ tick ∧ tick ≤ 1000000) (hE : Erl T craft tick size E) {n : Int} (hn : Nd E n) (hne : n ≠ craft) :
    stp T (befL E n size (hl T)) n (gt E (befL E n size (hl T))) size = some (gt E n) ∧ ∀ m : Int, 0 ≤ m → m < befL E n size (hl T) → stp T m n (gt E m) size ≠ some (gt E n) := by
  obtain ⟨⟨h, hh, h1, h2, h3⟩, h4⟩ := bef_good hs hc ht hE hn hne
  have hb := bef_nd hs hc ht hE hn hne
  have hrg := hb.1.rg
  refine ⟨(stp_hit hT hs hE ⟨hrg.1, hb.2.2⟩ hn).2 ⟨h, hh, h3.symm, h1, h2⟩, fun m m0 hm hq => ?_⟩
  obtain ⟨g, hg, g1, g2, g3⟩ := (stp_hit hT hs hE ⟨m0, by omega⟩ hn).1 hq
  have := h4 g hg g2 g3
  omega
/-- How the specification writes a tick: −1 for never. -/
def mz (z : Int) : Int := if z = 1000001 then -1 else z
/-- What its relax does. -/
def rlx (size : Int) (l : List Int) (x : Wn) (f t : Nat) : List Int := if gt l (f : Int) < 1000001 then match hopO x f t (gt l (f : Int)) size with
    | none => l
    | some v => if v < gt l (t : Int) then l.set t v else l
  else l
theorem rlx_rx {size : Int} {l : List Int} (hs : 1 ≤ size) (hl' : Aok l) {x : Wn} {f t : Nat} (hx : Lok x) (hv : via x f t = true) (hf : f < 12) (ht : t < 21) : rlx size l x f t = rx size l ⟨f, t, x⟩ := by
  have hun := hx.un
  have hd := dur_bd hx hs
  have hfr := hx.fr
  have hb := hl'.bd f (by omega)
  have hbt := hl'.bd t ht
  have hbg : gt l (f : Int) ≤ beg x (gt l (f : Int)) := by unfold beg; omega
  unfold rlx rx
  dsimp only
  rw [Int.toNat_natCast]
  by_cases h1 : gt l (f : Int) < 1000001
  · rw [if_pos h1]
    unfold hopO
    by_cases h2 : beg x (gt l (f : Int)) + dur x size ≤ x.un
    · have he : hend' x (gt l (f : Int)) size = beg x (gt l (f : Int)) + dur x size := by unfold hend'; rw [if_neg (by omega)]
      rw [if_pos ⟨hv, h2⟩, he]
    · have he : hend' x (gt l (f : Int)) size = 1000001 := by unfold hend'; rw [if_pos (by omega)]
      rw [if_neg (fun h => h2 h.2), he, if_neg (by omega)]
  · have he : hend' x (gt l (f : Int)) size = 1000001 := by unfold hend'; rw [if_pos (by omega)]
    rw [if_neg h1, he, if_neg (by omega)]
theorem rlx_no {size : Int} {l : List Int} {x : Wn} {f t : Nat} (hv : via x f t = false) : rlx size l x f t = l := by
  unfold rlx hopO
  simp [hv]
/-- Both directions of a link: its hops. -/
theorem rlx_two {size : Int} {l : List Int} (hs : 1 ≤ size) (hl' : Aok l) {x : Wn} (hx : lkOk x = true) {a b : Nat} (ha : x.a = a) (hb : far x = b) : rlx size (rlx size l x a b) x b a = pass (hopsW x) size l := by
  obtain ⟨h1, h2, h3⟩ := lkOk_ok hx
  have hlk : lk x = true := by unfold lkOk at hx; exact (of_decide_eq_true hx).1
  have ha12 := h1.a
  have v1 : via x a b = true := by unfold via; exact decide_eq_true ⟨hlk, .inl ⟨ha, hb⟩, by omega⟩
  have e1 : rlx size l x a b = rx size l (there x) := by
    rw [rlx_rx hs hl' h1 v1 (by omega) (by omega)]
    unfold there
    rw [ha, hb]
  have ok1 : Aok (rx size l (there x)) := rx_ok hl' (hok_of ⟨there x, there_ok hx⟩) hs
  rw [e1]
  unfold hopsW pass
  by_cases hf : far x < 12
  · have v2 : via x b a = true := by unfold via; exact decide_eq_true ⟨hlk, .inr ⟨ha, hb⟩, by omega⟩
    rw [if_pos hf, rlx_rx hs ok1 h1 v2 (by omega) (by omega)]
    show rx size _ ⟨(b : Int), (a : Int), x⟩ = rx size _ (back x)
    unfold back
    rw [ha, hb]
  · have v2 : via x b a = false := by unfold via; exact decide_eq_false (fun h => by have := h.2.2; omega)
    rw [if_neg hf, rlx_no v2]
    rfl
theorem hl_step {T : List Wn} {x : Wn} {i : Nat} (h : T[i]? = some x) : hl (T.take (i + 1)) = hl (T.take i) ++ (if lkOk x = true then hopsW x else []) := by
  rw [hl_eq, hl_eq, List.take_add_one, h, Option.toList_some, List.filter_append, List.flatMap_append]
  congr 1
  by_cases hx : lkOk x = true
  · rw [List.filter_cons_of_pos hx, if_pos hx]; simp
  · rw [List.filter_cons_of_neg hx, if_neg hx]; simp
theorem pass_app (G H : List Hp) (size : Int) (l : List Int) : pass (G ++ H) size l = pass H size (pass G size l) := by unfold pass; exact List.foldl_append
end Q
end Go.Proofs.Ytojflmejkigdiaa
