/-
  perigeeref10's Table as a slice of windows; its windows are in order, at ticks of a table.
-/
import Derived.Test.YtobbnbelacncjaaPwTab
import Derived.Test.YtobbnbelacncjaaPwLaw
namespace Go.Proofs.Ytobbnbelacncjaa
open Go.RowKit
namespace Pw
open H
set_option linter.unusedVariables false
set_option linter.unusedSimpArgs false
set_option maxRecDepth 100000
theorem flat6_len (L : List Q.Wn) : (flat6 L).length = L.length * 6 := by
  induction L with
  | nil => rfl
  | cons x L ih =>
    show (cells6 x ++ flat6 L).length = _
    rw [List.length_append, ih, List.length_cons]
    show 6 + _ = _
    omega
theorem flat6_get : ∀ (L : List Q.Wn) (j i : Nat) (x : Q.Wn), L[j]? = some x → i < 6 → (flat6 L)[j * 6 + i]? = (cells6 x)[i]?
  | [], j, i, x, h, _ => by simp at h
  | y :: L, 0, i, x, h, hi => by
    have h2 : y = x := by simpa using h
    subst h2
    show (cells6 y ++ flat6 L)[0 * 6 + i]? = _
    rw [List.getElem?_append_left (by show 0 * 6 + i < 6; omega), Nat.zero_mul, Nat.zero_add]
  | y :: L, j + 1, i, x, h, hi => by
    have h2 : L[j]? = some x := by simpa using h
    show (cells6 y ++ flat6 L)[(j + 1) * 6 + i]? = _
    rw [List.getElem?_append_right (by show 6 ≤ (j + 1) * 6 + i; omega), show (j + 1) * 6 + i - (cells6 y).length = j * 6 + i from by show (j + 1) * 6 + i - 6 = _; omega]
    exact flat6_get L j i x h2 hi
theorem own_rds6 {W : World} {b : Nat} {A : Option Addr} {c : Nat} {L : List Q.Wn} (h : W.ownsRow b 77 6 (.slice A L.length c) L.length (flat6 L)) : Q.RdsWn W W.heap.size A L := by
  intro j x hx
  have hj := (List.getElem?_eq_some_iff.1 hx).1
  obtain ⟨_, ⟨_, h0⟩ | ⟨g, cap, cur, hv, _, hh, h1, h2, hcs, ht⟩⟩ := h
  · omega
  · have e : A = some ⟨g, 0, none⟩ := by injection hv
    have key : ∀ r, r < 6 → cur[j * 6 + r]? = (cells6 x)[r]? := fun r hr => by
      rw [← flat6_get L j r x hx hr, ← ht, List.getElem?_take, if_pos (by omega), Array.getElem?_toList]
    refine ⟨_, e, hlt_of hh, ?_⟩
    rw [ad_add]
    exact ⟨by rw [cell_obj hh]; exact key 0 (by omega), by rw [cell_obj hh]; exact key 1 (by omega), by rw [cell_obj hh]; exact key 2 (by omega), by rw [cell_obj hh]; exact key 3 (by omega), by rw [cell_obj hh]; exact key 4 (by omega), by rw [cell_obj hh]; exact key 5 (by omega)⟩
theorem rtable2_any (l : List Int) (A : Option Addr) (cap B : Nat) (w : World) (hB : B ≤ w.heap.size) (hlen : l.length ≤ 140737488351232) (hl : ∀ n ∈ l, 0 ≤ n ∧ n < 65536) (hR : RdI w B .u16 A l) :
    Calls Try.prog 23 #[.slice A l.length cap] w fun e w' => ∃ A c, e = .returned (.slice A (tabL l).length c) ∧ Q.RdsWn w' w'.heap.size A (tabL l) ∧ Below w.heap.size w w' := by
  refine (rtable_any l A cap B w hB hlen hl hR).mono ?_
  rintro e w' ⟨v, rfl, ho, hB⟩
  obtain ⟨A, c, rfl⟩ := own_shape6 ho
  exact ⟨A, c, rfl, own_rds6 ho, hB⟩
/-- What holds of a table made of numbers. -/
structure TInv (s : Tb) : Prop where
  ok : TbOk s
  win : ∀ x ∈ s.out, 0 ≤ x.fr ∧ x.fr ≤ s.at_ ∧ x.fr < x.un ∧ x.un ≤ 1000 ∧ x.kind = 3 ∧ (x.a = 0 ∨ x.a = 1) ∧ x.b = 0
  srt : s.out.Pairwise (fun x y => x.fr ≤ y.fr)
theorem tstep_inv {s : Tb} (h : TInv s) {n : Int} (hn : 0 ≤ n) (hu : ¬ 1000 < utl s n) : TInv (tstep s n) := by
  have hb := tb_bd h.ok hn
  refine ⟨tstep_ok h.ok hn hu, fun x hx => ?_, ?_⟩
  · rcases List.mem_append.1 hx with hx | hx
    · have := h.win x hx
      show 0 ≤ x.fr ∧ x.fr ≤ frm s n ∧ _
      exact ⟨this.1, by omega, this.2.2⟩
    · rw [List.mem_singleton.1 hx]
      show 0 ≤ frm s n ∧ frm s n ≤ frm s n ∧ frm s n < utl s n ∧ utl s n ≤ 1000 ∧ (3 : Int) = 3 ∧ (cr n = 0 ∨ cr n = 1) ∧ (0 : Int) = 0
      exact ⟨by omega, Int.le_refl _, by omega, by omega, rfl, cr_bd n, rfl⟩
  · show (s.out ++ [win s n]).Pairwise _
    rw [List.pairwise_append]
    refine ⟨h.srt, by simp, fun x hx y hy => ?_⟩
    rw [List.mem_singleton.1 hy]
    have := h.win x hx
    show x.fr ≤ frm s n
    omega
theorem tabT_inv : ∀ (l : List Int) (s : Tb), (∀ n ∈ l, 0 ≤ n) → TInv s → (∀ x ∈ tabT s l, 0 ≤ x.fr ∧ x.fr ≤ 1000 ∧ x.fr < x.un ∧ x.un ≤ 1000 ∧ x.kind = 3 ∧ (x.a = 0 ∨ x.a = 1) ∧ x.b = 0) ∧ (tabT s l).Pairwise (fun x y => x.fr ≤ y.fr) ∧ (tabT s l).length ≤ s.out.length + l.length
  | [], s, _, h => ⟨fun x hx => by have := h.win x hx; have := h.ok.at_; omega, h.srt, Nat.le_refl _⟩
  | n :: l, s, hl, h => by
    have hw : ∀ x ∈ s.out, 0 ≤ x.fr ∧ x.fr ≤ 1000 ∧ x.fr < x.un ∧ x.un ≤ 1000 ∧ x.kind = 3 ∧ (x.a = 0 ∨ x.a = 1) ∧ x.b = 0 := fun x hx => by have := h.win x hx; have := h.ok.at_; omega
    unfold tabT
    split
    · exact ⟨hw, h.srt, by omega⟩
    · rename_i hu
      have h2 := tabT_inv l (tstep s n) (fun m hm => hl m (by simp [hm])) (tstep_inv h (hl n (by simp)) hu)
      refine ⟨h2.1, h2.2.1, ?_⟩
      have h3 := h2.2.2
      have h4 : (tstep s n).out.length = s.out.length + 1 := by show (s.out ++ [win s n]).length = _; simp
      rw [List.length_cons]
      omega
theorem tb0_inv : TInv tb0 := ⟨⟨by simp [tb0], by simp [tb0], by simp [tb0], by simp [tb0]⟩, fun x hx => by simp [tb0] at hx, by simp [tb0]⟩
theorem tab_all {l : List Int} (hl : ∀ n ∈ l, 0 ≤ n) : (∀ x ∈ tabL l, 0 ≤ x.fr ∧ x.fr ≤ 1000 ∧ x.fr < x.un ∧ x.un ≤ 1000 ∧ x.kind = 3 ∧ (x.a = 0 ∨ x.a = 1) ∧ x.b = 0) ∧ (tabL l).Pairwise (fun x y => x.fr ≤ y.fr) ∧ (tabL l).length ≤ 30 := by
  have h := tabT_inv (l.take 30) tb0 (fun n hn => hl n (List.mem_of_mem_take hn)) tb0_inv
  refine ⟨h.1, h.2.1, ?_⟩
  have h2 := h.2.2
  rw [List.length_take] at h2
  have h3 : tb0.out.length = 0 := rfl
  unfold tabL
  omega
theorem tab_tok {l : List Int} (hl : ∀ n ∈ l, 0 ≤ n) : ∀ x ∈ tabL l, Q.Tok x := fun x hx => by
  have h := (tab_all hl).1 x hx
  exact ⟨by omega, by omega⟩
theorem tab_srt {l : List Int} (hl : ∀ n ∈ l, 0 ≤ n) : SrtF (tabL l) := fun i j x y hij hx hy => by
  have h := (tab_all hl).2.1
  obtain ⟨hi, rfl⟩ := List.getElem?_eq_some_iff.1 hx
  obtain ⟨hj, rfl⟩ := List.getElem?_eq_some_iff.1 hy
  exact List.pairwise_iff_getElem.1 h i j hi hj hij
theorem endT_le (T : List Q.Wn) {b n : Int} (h : ∀ x ∈ T, x.un ≤ b) (hn : n ≤ b) : endT T n ≤ b := by
  induction T generalizing n with
  | nil => exact hn
  | cons x T ih =>
    show endT T (max n x.un) ≤ b
    have := h x (by simp)
    exact ih (fun y hy => h y (by simp [hy])) (by omega)
theorem tab_end_le {l : List Int} (hl : ∀ n ∈ l, 0 ≤ n) : 0 ≤ endT (tabL l) 0 ∧ endT (tabL l) 0 ≤ 1000 :=
  ⟨(endT_bd (fun x hx => (by have := (tab_all hl).1 x hx; omega)) (by omega)).1, endT_le _ (fun x hx => (by have := (tab_all hl).1 x hx; omega)) (by omega)⟩
theorem u8_bd {a : Int} (h : (Lit.int .u8 a).wf = true) : 0 ≤ a ∧ a < 256 := by
  simp [Lit.wf, IntKind.min, IntKind.max, IntKind.signed, IntKind.bits] at h
  omega
theorem u16_bd {a : Int} (h : (Lit.int .u16 a).wf = true) : 0 ≤ a ∧ a < 65536 := by
  simp [Lit.wf, IntKind.min, IntKind.max, IntKind.signed, IntKind.bits] at h
  omega
end Pw
namespace Q
theorem RdsWn.more {w : World} {B B' : Nat} {A : Option Addr} {xs : List Wn} (h : RdsWn w B A xs) (hb : B ≤ B') : RdsWn w B' A xs := fun j x hx => by
  obtain ⟨ad, h1, h2, h3⟩ := h j x hx
  exact ⟨ad, h1, by omega, h3⟩
end Q
end Go.Proofs.Ytobbnbelacncjaa
