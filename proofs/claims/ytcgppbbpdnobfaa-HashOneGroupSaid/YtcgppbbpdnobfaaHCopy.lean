/-
  Ints and Few: a copy of the first elements of a slice; whether two byte slices are equal.
-/
import Derived.Test.YtcgppbbpdnobfaaHAround
namespace Go.Proofs.Ytcgppbbpdnobfaa
open Go.ChangeShapes Go.WideShapes Go.ChangeAt Go.RowKit Go.Shelf
namespace H

set_option linter.unusedVariables false

theorem open_cap {HH : Type} {enc : TypeId × Value → HH} {W : World} {t e : TypeId} {k : IntKind} {a : Option Addr} {len cap : Nat} {d : DataW HH} {p : List MemPlace}
    (ht : Try.prog.underlying t = some (.slice e)) (he : Try.prog.underlying e = some (.int k)) (hc : Try.prog.cellsOf e = 1) (h : DataW.Trod enc Try.prog W 0 (fun _ => true) true t (.slice a len cap) d p) : len ≤ cap ∧ cap ≤ maxLen := by
  obtain ⟨fuel, hf⟩ := h
  rcases open_ints ht he hc hf with ⟨hcs, _⟩ | ⟨x, l, c, zs, hcs, _, hl, hm, _⟩
  · simp [Value.cells] at hcs
    obtain ⟨rfl, rfl, rfl⟩ := hcs
    simp
  · simp [Value.cells] at hcs
    obtain ⟨rfl, rfl, rfl⟩ := hcs
    exact ⟨hl, hm⟩

theorem wpList_unguard {P : Program} {ops : Array Oper} {Q : Exit → Act → World → Prop} {rest : List Oper} {o : Oper} {a : Act} {w : World} (hw : Region.wanted o (yielded ops a.tmps) = true) (h : wpList P ops Q ({ o with guard := none } :: rest) a w) : wpList P ops Q (o :: rest) a w := by
  have e : Region.wanted { o with guard := none } (yielded ops a.tmps) = true := rfl
  unfold wpList at h ⊢
  rw [if_pos hw]
  rw [if_pos e] at h
  exact h

theorem own_form {w : World} {base n : Nat} {e : TypeId} {v : Value} {xs : List Value} (h : w.ownsRow base e 1 v n xs) (hn : 0 < n) : ∃ g cap, v = .slice (some ⟨g, 0, none⟩) n cap ∧ base ≤ g ∧ g < w.heap.size := by
  rcases h.2 with ⟨_, h0⟩ | ⟨g, cap, _, rfl, hb, hh, _⟩
  · omega
  · exact ⟨g, cap, rfl, hb, (Array.getElem?_eq_some_iff.1 hh).1⟩

theorem infoB : (Try.prog.info? 5).map (fun i => (i.zero, i.size, i.bytes)) = some (some (.int .u8 0), 1, 1) := by kernel_rfl

theorem RdI.news {w : World} {B : Nat} {k : IntKind} {ad : Addr} {zs : List Int} (h : RdI w B k (some ad) zs) (m : Nat) : ∀ j u, ((zs.take m).map (Value.int k))[j]? = some u → w.cell? (ad.add j) = some u := by
  intro j u hu
  rw [List.getElem?_map, List.getElem?_take] at hu
  split at hu
  · rcases hz : zs[j]? with _ | z
    · rw [hz] at hu; cases hu
    · obtain ⟨ad', e, _, hc⟩ := h j (List.getElem?_eq_some_iff.1 hz).1
      cases e
      rw [hc, hz]
      rw [hz] at hu
      exact hu
  · cases hu

theorem one_cells (k : IntKind) (zs : List Int) : ∀ u ∈ zs.map (Value.int k), u.oneCell' = true := by
  intro u hu
  obtain ⟨z, _, rfl⟩ := List.mem_map.1 hu
  simp [Value.oneCell']

set_option maxHeartbeats 1000000 in
theorem few_any (A : Option Addr) (n cap m : Nat) (bs : List Int) (w : World) (hl : bs.length = n) (hc : n ≤ cap) (hcm : cap ≤ maxLen) (hn : n * 1 ≤ 140737488351232) (hm : m ≤ 140737488351232) (hr : RdI w w.heap.size .u8 A bs) :
    Calls Try.prog 22 #[.slice A n cap, .int .i64 m] w fun e w' => ∃ v, e = .returned v ∧ w'.ownsRow w.heap.size 5 1 v (min n m) ((bs.take (min n m)).map (Value.int .u8)) ∧ Below w.heap.size w w' := by
  obtain ⟨i0, hi, hz0, hz1, hz2⟩ := info_parts infoB
  have HL := Lib.hid hl
  have HR := Lib.hid hr
  clear hl hr
  unfold maxLen at hcm
  rcases A with _ | ad
  · obtain rfl : n = 0 := by
      rcases Nat.eq_zero_or_pos n with h | h
      · exact h
      · obtain ⟨_, e, _⟩ := HR.out 0 (by rw [HL.out]; exact h)
        cases e
    go_enter Try.func22, Try.ntmps22
    go_wp2
    all_goals go_ret
    all_goals exact ⟨_, rfl, by rw [Nat.zero_min]; simpa using World.ownsRow_nil w _ _ _, Below.refl _ _⟩
  · have hnews := HR.out.news (min n m)
    have hlen : ((bs.take (min n m)).map (Value.int .u8)).length = min n m := by rw [List.length_map, List.length_take, HL.out]; omega
    by_cases hmn : m < n
    · rw [Nat.min_eq_right (by omega)] at hnews hlen ⊢
      have HN := Lib.hid hnews
      have HE := Lib.hid hlen
      clear hnews hlen
      go_enter Try.func22, Try.ntmps22
      go_wp2_with (at_builtin; go_must (refine wpList_append_own _ rfl _ _ 28 rfl w.heap.size 5 i0 (.int .u8 0) 1 1 Try.underlying28 hi hz0 hz1 hz2 rfl (by decide) (.slice none 0 0) 0 [] rfl (World.ownsRow_nil _ _ _ _) ad m cap ((bs.take m).map (Value.int .u8)) rfl (by rw [HE.out]; omega) HN.out (one_cells _ _) (by unfold maxLen; omega) (by omega) (Nat.le_refl _) ?_; intro v' w1 hown' hgrow _))
      go_ret
      rw [Nat.zero_add, List.nil_append, List.map_take] at hown'
      exact ⟨_, rfl, hown', (Below.refl _ w).grown hgrow (Nat.le_refl _) (fun j e => by cases e)⟩
    · rw [Nat.min_eq_left (by omega)] at hnews hlen ⊢
      have HN := Lib.hid hnews
      have HE := Lib.hid hlen
      clear hnews hlen
      go_enter Try.func22, Try.ntmps22
      go_wp2_with (at_builtin; go_must (refine wpList_append_own _ rfl _ _ 28 rfl w.heap.size 5 i0 (.int .u8 0) 1 1 Try.underlying28 hi hz0 hz1 hz2 rfl (by decide) (.slice none 0 0) 0 [] rfl (World.ownsRow_nil _ _ _ _) ad n cap ((bs.take n).map (Value.int .u8)) rfl (by rw [HE.out]; omega) HN.out (one_cells _ _) (by unfold maxLen; omega) (by omega) (Nat.le_refl _) ?_; intro v' w1 hown' hgrow _))
      go_ret
      rw [Nat.zero_add, List.nil_append, List.map_take] at hown'
      exact ⟨_, rfl, hown', (Below.refl _ w).grown hgrow (Nat.le_refl _) (fun j e => by cases e)⟩

set_option maxHeartbeats 1000000 in
theorem ints_any (A : Option Addr) (n cap m : Nat) (bs : List Int) (w : World) (hl : bs.length = n) (hc : n ≤ cap) (hcm : cap ≤ maxLen) (hn : n * 8 ≤ 140737488351232) (hm : m ≤ 140737488351232) (hr : RdI w w.heap.size .i64 A bs) :
    Calls Try.prog 21 #[.slice A n cap, .int .i64 m] w fun e w' => ∃ v, e = .returned v ∧ w'.ownsRow w.heap.size 3 1 v (min n m) ((bs.take (min n m)).map (Value.int .i64)) ∧ Below w.heap.size w w' := by
  obtain ⟨i0, hi, hz0, hz1, hz2⟩ := info_parts infoI
  have HL := Lib.hid hl
  have HR := Lib.hid hr
  clear hl hr
  unfold maxLen at hcm
  rcases A with _ | ad
  · obtain rfl : n = 0 := by
      rcases Nat.eq_zero_or_pos n with h | h
      · exact h
      · obtain ⟨_, e, _⟩ := HR.out 0 (by rw [HL.out]; exact h)
        cases e
    go_enter Try.func21, Try.ntmps21
    go_wp2
    all_goals go_ret
    all_goals exact ⟨_, rfl, by rw [Nat.zero_min]; simpa using World.ownsRow_nil w _ _ _, Below.refl _ _⟩
  · have hnews := HR.out.news (min n m)
    have hlen : ((bs.take (min n m)).map (Value.int .i64)).length = min n m := by rw [List.length_map, List.length_take, HL.out]; omega
    by_cases hmn : m < n
    · rw [Nat.min_eq_right (by omega)] at hnews hlen ⊢
      have HN := Lib.hid hnews
      have HE := Lib.hid hlen
      clear hnews hlen
      go_enter Try.func21, Try.ntmps21
      go_wp2_with (at_builtin; go_must (refine wpList_append_own _ rfl _ _ 22 rfl w.heap.size 3 i0 (.int .i64 0) 1 8 Try.underlying22 hi hz0 hz1 hz2 rfl (by decide) (.slice none 0 0) 0 [] rfl (World.ownsRow_nil _ _ _ _) ad m cap ((bs.take m).map (Value.int .i64)) rfl (by rw [HE.out]; omega) HN.out (one_cells _ _) (by unfold maxLen; omega) (by omega) (Nat.le_refl _) ?_; intro v' w1 hown' hgrow _))
      go_ret
      rw [Nat.zero_add, List.nil_append, List.map_take] at hown'
      exact ⟨_, rfl, hown', (Below.refl _ w).grown hgrow (Nat.le_refl _) (fun j e => by cases e)⟩
    · rw [Nat.min_eq_left (by omega)] at hnews hlen ⊢
      have HN := Lib.hid hnews
      have HE := Lib.hid hlen
      clear hnews hlen
      go_enter Try.func21, Try.ntmps21
      go_wp2_with (at_builtin; go_must (refine wpList_append_own _ rfl _ _ 22 rfl w.heap.size 3 i0 (.int .i64 0) 1 8 Try.underlying22 hi hz0 hz1 hz2 rfl (by decide) (.slice none 0 0) 0 [] rfl (World.ownsRow_nil _ _ _ _) ad n cap ((bs.take n).map (Value.int .i64)) rfl (by rw [HE.out]; omega) HN.out (one_cells _ _) (by unfold maxLen; omega) (by omega) (Nat.le_refl _) ?_; intro v' w1 hown' hgrow _))
      go_ret
      rw [Nat.zero_add, List.nil_append, List.map_take] at hown'
      exact ⟨_, rfl, hown', (Below.refl _ w).grown hgrow (Nat.le_refl _) (fun j e => by cases e)⟩

/-- The text of a list of bytes. -/
def strOf (bs : List Int) : ByteArray := ⟨(bs.map fun b => UInt8.ofNat b.toNat).toArray⟩
theorem strOf_inj {a b : List Int} (ha : Byt a) (hb : Byt b) : strOf a = strOf b ↔ a = b := by
  constructor
  · intro h
    have h1 : a.map (fun b => UInt8.ofNat b.toNat) = b.map (fun b => UInt8.ofNat b.toNat) := by
      have := congrArg (fun s : ByteArray => s.data.toList) h
      simpa [strOf] using this
    have key : ∀ {l : List Int}, Byt l → (l.map fun b => UInt8.ofNat b.toNat).map (fun c => (c.toNat : Int)) = l := by
      intro l hl
      rw [List.map_map]
      conv => rhs; rw [← List.map_id l]
      apply List.map_congr_left
      intro x hx
      have := hl x hx
      simp
      omega
    rw [← key ha, ← key hb, h1]
  · rintro rfl
    rfl

theorem tl_inj (x y : ByteArray) : (x.toList == y.toList) = decide (x = y) := by
  rw [Bool.eq_iff_iff, beq_iff_eq, decide_eq_true_eq, ByteArray.toList_eq, ByteArray.toList_eq]
  constructor
  · intro h
    cases x
    cases y
    congr
    exact Array.toList_inj.1 h
  · rintro rfl
    rfl

theorem conv_str (A : Option Addr) (n cap : Nat) (bs : List Int) (B : Nat) (w : World) (hb : Byt bs) (hl : bs.length = n) (hr : RdI w B .u8 A bs) :
    (convert 28 9 (.slice A n cap)).run Try.prog w = .ok (.string (strOf bs)) w := by
  rcases A with _ | ad
  · have h0 : bs = [] := by
      rcases bs with _ | ⟨b, bs⟩
      · rfl
      · obtain ⟨_, e, _⟩ := hr 0 (by simp)
        cases e
    subst h0
    exact run_convert_bytes_nil w 28 5 Try.underlying28 Try.underlying5 n cap 9 Try.underlying9
  · have h := run_convert_bytes_back (P := Try.prog) w 28 9 5 ad cap (bs.map fun b => UInt8.ofNat b.toNat) Try.underlying28 Try.underlying5 Try.underlying9 (fun j hj => by
      have hj' : j < bs.length := by simpa using hj
      obtain ⟨ad', e, _, hc⟩ := hr j hj'
      cases e
      rw [hc, List.getElem?_eq_getElem hj']
      have := hb bs[j] (List.getElem_mem _)
      simp
      omega)
    rw [List.length_map, hl] at h
    exact h

set_option maxHeartbeats 1000000 in
theorem same_any (A A' : Option Addr) (n n' cap cap' : Nat) (bs bs' : List Int) (B B' : Nat) (w : World) (hb : Byt bs) (hb' : Byt bs') (hl : bs.length = n) (hl' : bs'.length = n') (hr : RdI w B .u8 A bs) (hr' : RdI w B' .u8 A' bs') :
    Calls Try.prog 23 #[.slice A n cap, .slice A' n' cap'] w fun e w' => e = .returned (.bool (decide (bs = bs'))) ∧ w = w' := by
  have h1 := conv_str A n cap bs B w hb hl hr
  have h2 := conv_str A' n' cap' bs' B' w hb' hl' hr'
  have hs := strOf_inj hb hb'
  clear hr hr' hl hl' hb hb'
  generalize hx : strOf bs = x at h1 hs
  generalize hy : strOf bs' = y at h2 hs
  clear hx hy
  have HS := Lib.hid hs
  clear hs
  go_enter Try.func23, Try.ntmps23
  go_wp2
  go_ret
  refine ⟨?_, rfl⟩
  show Ending.returned (.bool (x.toList == y.toList)) = _
  rw [tl_inj, decide_eq_decide.2 HS.out]

end H
end Go.Proofs.Ytcgppbbpdnobfaa
