/-
  The nodes of a way: different, over crafts, each reached from the one before at its tick.
-/
import Derived.Test.YtojflmejkigdiaaQStp
import Derived.Test.YtojflmejkigdiaaQSub
namespace Go.Proofs.Ytojflmejkigdiaa
open Go.RowKit
namespace Q
open H
set_option linter.unusedVariables false
set_option linter.unusedSimpArgs false
structure ChF (E : List Int) (c : Int) (nx : Int → Int) (n : Int) (l : List Int) : Prop where
  head : l[0]? = some c
  last : 0 < l.length ∧ l[l.length - 1]? = some n
  nd : ∀ x ∈ l, Nd E x
  le : ∀ x ∈ l, gt E x ≤ gt E n
  pw : l.Pairwise (fun x y => gt E x < gt E y)
  two : ∀ i a b, l[i]? = some a → l[i + 1]? = some b → b ≠ c ∧ a = nx b
theorem chn_f {T : List Wn} {craft tick size : Int} {E : List Int} (hs : 1 ≤ size) (hc : 0 ≤ craft ∧ craft < 12) (ht : 0 ≤ tick ∧ tick ≤ 1000000) (hE : Erl T craft tick size E) {n : Int} {l : List Int} (h : Chn (fun n => befL E n size (hl T)) craft n l) (hn : Nd E n) : ChF E craft (fun n => befL E n size (hl T)) n l := by
  induction h with
  | base =>
    refine ⟨rfl, ⟨by simp, rfl⟩, fun x hx => ?_, fun x hx => ?_, List.pairwise_singleton _ _, fun i a b ha hb => ?_⟩
    · rw [List.mem_singleton.1 hx]; exact hn
    · rw [List.mem_singleton.1 hx]; exact Int.le_refl _
    · simp at hb
  | step hne h ih =>
    rename_i n l
    obtain ⟨h1, h2, h3⟩ := bef_nd hs hc ht hE hn hne
    have f := ih h1
    have fl := f.last.1
    refine ⟨?_, ⟨by simp, ?_⟩, fun x hx => ?_, fun x hx => ?_, ?_, fun i a b ha hb => ?_⟩
    · rw [List.getElem?_append_left fl]; exact f.head
    · rw [List.length_append, List.length_singleton, List.getElem?_append_right (by omega)]; simp
    · rcases List.mem_append.1 hx with hx | hx
      · exact f.nd x hx
      · rw [List.mem_singleton.1 hx]; exact hn
    · rcases List.mem_append.1 hx with hx | hx
      · have := f.le x hx; omega
      · rw [List.mem_singleton.1 hx]; exact Int.le_refl _
    · rw [List.pairwise_append]
      refine ⟨f.pw, List.pairwise_singleton _ _, fun x hx y hy => ?_⟩
      rw [List.mem_singleton.1 hy]
      have := f.le x hx
      omega
    · by_cases hi : i + 1 < l.length
      · rw [List.getElem?_append_left (by omega)] at ha
        rw [List.getElem?_append_left hi] at hb
        exact f.two i a b ha hb
      · have hb1 := (List.getElem?_eq_some_iff.1 hb).1
        rw [List.length_append, List.length_singleton] at hb1
        have e : i + 1 = l.length := by omega
        rw [List.getElem?_append_right (by omega), e, Nat.sub_self] at hb
        rw [List.getElem?_append_left (by omega), show i = l.length - 1 by omega, f.last.2] at ha
        have e1 := Option.some.inj ha
        have e2 : n = b := by simpa using hb
        subst e2
        exact ⟨hne, e1.symm⟩
/-- The nodes by their places. -/
def gl (l : List Int) (i : Nat) : Int := l[i]?.getD 0
theorem gl_get {l : List Int} {i : Nat} (h : i < l.length) : l[i]? = some (gl l i) := by
  unfold gl
  rw [List.getElem?_eq_getElem h]
  rfl
structure WyF (T : List Wn) (E : List Int) (c s size : Int) (l : List Int) : Prop where
  two : 2 ≤ l.length
  len : l.length ≤ 13
  head : gl l 0 = c
  last : gl l (l.length - 1) = 12 + s
  bd : ∀ p, p < l.length → 0 ≤ gl l p ∧ gl l p < 21
  craft : ∀ p, p + 1 < l.length → gl l p < 12
  new : ∀ p, p < l.length → ¬ gl l p ∈ l.take p
  hop : ∀ q, q + 1 < l.length → stp T (gl l q) (gl l (q + 1)) (gt E (gl l q)) size = some (gt E (gl l (q + 1)))
  tk : ∀ p, p < l.length → 0 ≤ gt E (gl l p) ∧ gt E (gl l p) < 1000001
theorem way_f {T : List Wn} (hT : ∀ x ∈ T, fm x = true) {craft tick size s : Int} {E : List Int} (hs : 1 ≤ size) (hc : 0 ≤ craft ∧ craft < 12) (ht : 0 ≤ tick ∧ tick ≤ 1000000) (hst : 0 ≤ s) (hE : Erl T craft tick size E) {l : List Int} (h : Chn (fun n => befL E n size (hl T)) craft (12 + s) l) (hn : Nd E (12 + s)) : WyF T E craft s size l := by
  have f := chn_f hs hc ht hE h hn
  have hlen := chn_len hs hc ht hE h hn
  have hrk := rk_le E (12 + s)
  have f0 := f.last.1
  have hlast : gl l (l.length - 1) = 12 + s := Option.some.inj ((gl_get (by omega)).symm.trans f.last.2)
  have hhead : gl l 0 = craft := Option.some.inj ((gl_get f0).symm.trans f.head)
  have h2 : 2 ≤ l.length := by
    by_cases h1 : l.length = 1
    · rw [h1] at hlast
      rw [show 1 - 1 = 0 from rfl, hhead] at hlast
      omega
    · omega
  have hnd : ∀ p, p < l.length → Nd E (gl l p) := fun p hp => f.nd _ (List.mem_of_getElem? (gl_get hp))
  refine ⟨h2, by omega, hhead, hlast, fun p hp => (hnd p hp).rg, fun p hp => ?_, fun p hp hm => ?_, fun q hq => ?_, fun p hp => (hnd p hp).tk⟩
  · obtain ⟨h3, h4⟩ := f.two p _ _ (gl_get (by omega)) (gl_get hp)
    have h5 := (bef_nd hs hc ht hE (hnd (p + 1) hp) h3).2.2
    rw [h4]
    exact h5
  · obtain ⟨i, hi⟩ := List.mem_iff_getElem?.1 hm
    rw [List.getElem?_take] at hi
    split at hi
    · rename_i hip
      have h6 := List.pairwise_iff_getElem.1 f.pw i p (by omega) hp hip
      have e1 : l[i]? = some l[i] := List.getElem?_eq_getElem (by omega)
      have e2 : l[p]? = some l[p] := List.getElem?_eq_getElem hp
      rw [hi] at e1
      rw [gl_get hp] at e2
      have e3 := Option.some.inj e1
      have e4 := Option.some.inj e2
      rw [← e3, ← e4] at h6
      omega
    · cases hi
  · obtain ⟨h3, h4⟩ := f.two q _ _ (gl_get (by omega)) (gl_get hq)
    have h5 := (stp_before hT hs hc ht hE (hnd (q + 1) hq) h3).1
    rw [h4]
    exact h5
theorem RdI.takeN {w : World} {B : Nat} {k : IntKind} {A : Option Addr} {zs : List Int} (h : RdI w B k A zs) (p : Nat) : RdI w B k A (zs.take p) := fun j hj => by
  rw [List.length_take] at hj
  obtain ⟨ad, h1, h2, h3⟩ := h j (by omega)
  refine ⟨ad, h1, h2, ?_⟩
  rw [List.getElem?_take, if_pos (by omega)]
  exact h3
theorem own_capN {w : World} {b n c : Nat} {e : TypeId} {A : Option Addr} {xs : List Value} (h : w.ownsRow b e 1 (.slice A n c) n xs) : n ≤ c := by
  obtain ⟨_, ⟨h1, h2⟩ | ⟨g, cap, cur, h1, _, _, h3, _⟩⟩ := h
  · omega
  · cases h1
    exact h3
theorem parr_y (T : List Wn) (A : Option Addr) (cap B : Nat) (c s : Nat) (tick size : Int) (w : World) (hB : B ≤ w.heap.size) (hlen : T.length ≤ 1000) (hc : c < 12) (hst : s < 9) (ht : 0 ≤ tick ∧ tick ≤ 1000000) (hs : 1 ≤ size ∧ size ≤ 100000) (hR : RdsWn w B A T) :
    Calls Try.prog 28 #[.slice A T.length cap, .int .i64 (c : Int), .int .i64 (s : Int), .int .i64 tick, .int .i64 size] w fun e w' => (∃ E, Erl T c tick size E ∧ ((gt E (12 + s) = 1000001 ∧ e = .returned (.tuple #[.int .i64 0, .slice none 0 0, .bool false])) ∨ (Nd E (12 + s) ∧ ∃ A1 c1 l, Chn (fun n => befL E n size (hl T)) c (12 + s) l ∧ e = .returned (.tuple #[.int .i64 (gt E (12 + s)), .slice A1 l.length c1, .bool true]) ∧ RdI w' w'.heap.size .i64 A1 l ∧ l.length ≤ c1))) ∧ Below w.heap.size w w' := by
  refine (parr_any T A cap B c s tick size w hB hlen hc hst ht hs hR).mono ?_
  rintro e w' ⟨⟨E, hE, h⟩, hBe⟩
  refine ⟨⟨E, hE, ?_⟩, hBe⟩
  rcases h with h | ⟨hn, v, l, hch, rfl, hO⟩
  · exact .inl h
  · obtain ⟨A1, c1, rfl⟩ := own_shape hO
    exact .inr ⟨hn, A1, c1, l, hch, rfl, own_RdI hO, own_capN hO⟩
end Q
end Go.Proofs.Ytojflmejkigdiaa
