/-
  The specification's leap tables: Bound, Table, Civil.
-/
import Derived.Test.YtlmbpbhdbgadjaaKTicks
namespace Go.Proofs.Ytlmbpbhdbgadjaa
open Go.RowKit
namespace K
open H
set_option linter.unusedVariables false
set_option maxRecDepth 100000
set_option maxHeartbeats 1000000 in
theorem bound_any (n : Int) (w : World) (hn : I64 n) : Calls Try.prog 51 #[.int .i64 n, .int .i64 100] w fun e w' => e = .returned (.int .i64 (around n 201 - 100)) ∧ w' = w := by
  have HA := Lib.hid (fun W => around_any n 201 hn.1 hn.2 (by omega) (by omega) W)
  have h1 := around_lt n (m := 201) (by omega)
  generalize around n 201 = x at *
  clear hn
  go_enter Try.func51, Try.ntmps51
  go_wp2_with (go_at_call 23; refine (HA.out _).mono ?_; rintro e w2 ⟨rfl, rfl⟩)
  go_ret
  exact ⟨rfl, rfl⟩
/-- The position of an entry, an entry, the first entries of the table that is made of numbers. -/
def pos (l : List Int) : Nat → Int
  | 0 => -1
  | k + 1 => pos l k + 1 + around (l[2 * k]?.getD 0) 1000
def ent (l : List Int) (k : Nat) : Lp := ⟨pos l (k + 1), around (l[2 * k + 1]?.getD 0) 201 - 100⟩
def tabN (l : List Int) (k : Nat) : List Lp := (List.range k).map (ent l)
def tlen (l : List Int) : Nat := min (l.length / 2) 8
def tab (l : List Int) : List Lp := tabN l (tlen l)
theorem tabN_len (l : List Int) (k : Nat) : (tabN l k).length = k := by simp [tabN]
theorem tab_len (l : List Int) : (tab l).length = tlen l := tabN_len l _
theorem tlen_le (l : List Int) : tlen l ≤ 8 := Nat.min_le_right _ _
theorem pos_succ (l : List Int) (k : Nat) : pos l (k + 1) = pos l k + 1 + around (l[2 * k]?.getD 0) 1000 := rfl
theorem pos_step (l : List Int) (k : Nat) : pos l k + 1 ≤ pos l (k + 1) ∧ pos l (k + 1) ≤ pos l k + 1000 := by
  have := around_lt (l[2 * k]?.getD 0) (m := 1000) (by omega)
  rw [pos_succ]; omega
theorem pos_bd (l : List Int) : ∀ k : Nat, (k : Int) - 1 ≤ pos l k ∧ pos l k ≤ 1000 * k
  | 0 => by show (_ ≤ (-1 : Int)) ∧ ((-1 : Int) ≤ _); omega
  | k + 1 => by have := pos_bd l k; have := pos_step l k; omega
theorem pos_lt (l : List Int) : ∀ i j, i < j → pos l i < pos l j
  | i, j + 1, h => by
    have := pos_step l j
    rcases Nat.lt_or_ge i j with h1 | h1
    · have := pos_lt l i j h1; omega
    · obtain rfl : i = j := by omega
      omega
theorem tabN_get {l : List Int} {m i : Nat} {x : Lp} (h : (tabN l m)[i]? = some x) : i < m ∧ x = ent l i := by
  have hi := (List.getElem?_eq_some_iff.1 h).1
  rw [tabN_len] at hi
  unfold tabN at h
  rw [List.getElem?_map, List.getElem?_range hi] at h
  exact ⟨hi, (Option.some.inj h).symm⟩
theorem tab_sorted (l : List Int) : Sorted (tab l) := by
  refine ⟨fun i j x y hx hy hij => ?_, fun x hx => ?_⟩
  · obtain ⟨_, rfl⟩ := tabN_get hx
    obtain ⟨_, rfl⟩ := tabN_get hy
    exact pos_lt l _ _ (by omega)
  · obtain ⟨i, hi⟩ := List.mem_iff_getElem?.1 hx
    obtain ⟨h1, rfl⟩ := tabN_get hi
    have h2 := tlen_le l
    have h3 := pos_bd l (i + 1)
    have h4 := around_lt (l[2 * i + 1]?.getD 0) (m := 201) (by omega)
    have e1 : (ent l i).pos = pos l (i + 1) := rfl
    have e2 : (ent l i).off = around (l[2 * i + 1]?.getD 0) 201 - 100 := rfl
    rw [e1, e2]
    omega
def flat (t : List Lp) : List Value := t.flatMap fun x => [Value.int .i64 x.pos, .int .i64 x.off]
theorem flat_snoc (l : List Int) (k : Nat) : flat (tabN l (k + 1)) = flat (tabN l k) ++ [Value.int .i64 (ent l k).pos, .int .i64 (ent l k).off] := by
  unfold flat tabN; rw [List.range_succ, List.map_append, List.flatMap_append]; simp
theorem flat_len : ∀ t : List Lp, (flat t).length = 2 * t.length
  | [] => rfl
  | x :: t => by have := flat_len t; unfold flat at this ⊢; simp only [List.flatMap_cons, List.length_append, List.length_cons, List.length_nil]; omega
theorem flat_get : ∀ (t : List Lp) (j : Nat) (x : Lp), t[j]? = some x → (flat t)[2 * j]? = some (.int .i64 x.pos) ∧ (flat t)[2 * j + 1]? = some (.int .i64 x.off)
  | y :: t, 0, x, h => by obtain rfl := Option.some.inj h; exact ⟨rfl, rfl⟩
  | y :: t, j + 1, x, h => by
    have := flat_get t j x (by simpa using h)
    unfold flat at this ⊢
    rw [List.flatMap_cons, show 2 * (j + 1) = 2 * j + 1 + 1 by omega]
    simpa using this
theorem own_Rds {w : World} {base n c : Nat} {e : TypeId} {A : Option Addr} {t : List Lp} (h : w.ownsRow base e 2 (.slice A n c) n (flat t)) (hn : n = t.length) : RdsLp w w.heap.size A t := by
  intro j x hx
  have hj := (List.getElem?_eq_some_iff.1 hx).1
  rcases h.2 with ⟨hv, h0⟩ | ⟨g, cap, cur, hv, hb, hg, _⟩
  · omega
  · injection hv with hA
    subst hA
    have hlt := (Array.getElem?_eq_some_iff.1 hg).1
    obtain ⟨f0, f1⟩ := flat_get t j x hx
    have c0 := (h.cells rfl) (2 * j) _ f0
    have c1 := (h.cells rfl) (2 * j + 1) _ f1
    rw [ad_add] at c0 c1
    refine ⟨_, rfl, hlt, ⟨?_, ?_⟩⟩
    · rw [ad_add, Nat.mul_comm]; exact c0
    · rw [ad_add]; dsimp only; rw [Nat.mul_comm]; exact c1
theorem infoL : (Try.prog.info? 69).map (fun i => (i.zero, i.size, i.bytes)) = some (some (.agg #[.int .i64 0, .int .i64 0]), 2, 16) := by kernel_rfl
theorem cell_new2 (w : World) (x y : Value) (t : TypeId) : ∀ (j : Nat) (u : Value), [x, y][j]? = some u → (w.alloc (.cells #[x, y] t)).cell? ⟨w.heap.size, j, none⟩ = some u := fun j u h => by
  match j, h with
  | 0, h => obtain rfl := Option.some.inj h; exact cell_top _ _ _ _
  | 1, h => obtain rfl := Option.some.inj h; exact cell_top _ _ _ _
theorem one_pair (a b : Int) : ∀ u ∈ [Value.int .i64 a, .int .i64 b], u.oneCell' = true := fun u hu => by
  simp at hu; rcases hu with rfl | rfl <;> rfl
theorem own_any2 {w : World} {base n n' : Nat} {e : TypeId} {v : Value} {xs xs' : List Value} (h : w.ownsRow base e 2 v n xs) (hn : n = n') (hx : xs = xs') : w.ownsRow base e 2 v n' xs' := by subst hn; subst hx; exact h
set_option maxHeartbeats 2000000 in
theorem table_any (l : List Int) (A : Option Addr) (cap B : Nat) (w : World) (hB : B ≤ w.heap.size) (hr : RdI w B .i64 A l) (hwf : ∀ n ∈ l, (Lit.int .i64 n).wf = true) (hl : l.length ≤ 140737488355328) :
    Calls Try.prog 28 #[.slice A l.length cap] w fun e w' => ∃ v, e = .returned v ∧ w'.ownsRow w.heap.size 69 2 v (tlen l) (flat (tab l)) ∧ Below w.heap.size w w' := by
  obtain ⟨i0, hi, hz0, hz1, hz2⟩ := info_parts infoL
  have HR := Lib.hid hr
  have HA : Hid (∀ j x, l[j]? = some x → ∀ W, Calls Try.prog 23 #[.int .i64 x, .int .i64 1000] W fun e w' => e = .returned (.int .i64 (around x 1000)) ∧ w' = W) :=
    Lib.hid (fun j x hx W => around_any x 1000 (i64_range (hwf x (List.mem_of_getElem? hx))).1 (i64_range (hwf x (List.mem_of_getElem? hx))).2 (by omega) (by omega) W)
  have HBD : Hid (∀ j x, l[j]? = some x → ∀ W, Calls Try.prog 51 #[.int .i64 x, .int .i64 100] W fun e w' => e = .returned (.int .i64 (around x 201 - 100)) ∧ w' = W) :=
    Lib.hid (fun j x hx W => bound_any x W (i64_range (hwf x (List.mem_of_getElem? hx))))
  have HT : Hid (tlen l = min (l.length / 2) 8) := Lib.hid rfl
  have HGET := Lib.hid (fun k (hk : k < l.length) => (⟨l[k], List.getElem?_eq_getElem hk⟩ : ∃ x, l[k]? = some x))
  have HFL := Lib.hid (fun k => flat_snoc l k)
  have HP := Lib.hid (fun k => pos_bd l k)
  have htab : flat (tab l) = flat (tabN l (tlen l)) := rfl
  rw [htab]
  clear hr hwf htab
  generalize tlen l = m at *
  generalize hlen : l.length = n at *
  clear hlen
  go_enter Try.func28, Try.ntmps28
  go_wp2_with fail
  go_loopg [3, 4, 5] m (fun g v a i wr => ∃ k : Nat, k + g = m ∧ a = .int .i64 (pos l k) ∧ i = .int .i64 (2 * (k : Int)) ∧ wr.ownsRow w.heap.size 69 2 v k (flat (tabN l k)) ∧ Below w.heap.size w wr)
  case atStart => exact ⟨0, Nat.zero_add _, rfl, rfl, World.ownsRow_nil _ _ _ _, Below.refl _ _⟩
  case round =>
    obtain ⟨k, hg, rfl, rfl, hown, hB2⟩ := hrel
    have HG := Lib.hid hg
    have HW := Lib.hid hown
    have HB := Lib.hid hB2
    have hkl : k ≤ m := by omega
    have hm := HT.out
    clear hg hown hB2
    by_cases hlt : k < m
    · have HLT := Lib.hid hlt
      have hk16 : 2 * (k : Int) < 16 := by omega
      have hkn : 2 * (k : Int) + 1 < (n : Int) := by omega
      have hkn0 : 2 * (k : Int) < (n : Int) := by omega
      have h0 : (0 : Int) ≤ 2 * (k : Int) := by omega
      obtain ⟨x, hx⟩ := HGET.out (2 * k) (by omega)
      obtain ⟨y, hy⟩ := HGET.out (2 * k + 1) (by omega)
      obtain ⟨ad, rfl, _, cx⟩ := (HR.out.below (HB.out.mono hB)) (2 * k) (by exact (List.getElem?_eq_some_iff.1 hx).1)
      obtain ⟨ad', e', _, cy⟩ := (HR.out.below (HB.out.mono hB)) (2 * k + 1) (by exact (List.getElem?_eq_some_iff.1 hy).1)
      obtain rfl := Option.some.inj e'
      rw [hx] at cx
      rw [hy] at cy
      dsimp only [Option.getD_some] at cx cy
      rw [show ad.add (2 * k + 1) = ⟨ad.block, ad.off + (2 * k + 1), none⟩ by unfold Addr.add; rw [if_neg (by omega)]] at cy
      have HAX := Lib.hid (HA.out _ x hx)
      have HBY := Lib.hid (HBD.out _ y hy)
      have hp := HP.out k
      have hpx := around_lt x (m := 1000) (by omega)
      have HPS := Lib.hid (show pos l (k + 1) = pos l k + 1 + around x 1000 by rw [pos_succ, hx]; rfl)
      have HEN := Lib.hid (show ent l k = ⟨pos l (k + 1), around y 201 - 100⟩ by unfold ent; rw [hy]; rfl)
      have HFK := Lib.hid (HFL.out k)
      clear hx hy hm hlt
      generalize pos l k = pk at *
      generalize around x 1000 = ax at *
      generalize around y 201 = ay at *
      have t0 : (2 * (k : Int)).toNat = 2 * k := by omega
      have t1 : (2 * (k : Int) + 1).toNat = 2 * k + 1 := by omega
      go_wp2_with (first | (go_at_call 23; refine (HAX.out _).mono ?_; rintro e w2 ⟨rfl, rfl⟩) | (go_at_call 51; refine (HBY.out _).mono ?_; rintro e w3 ⟨rfl, rfl⟩) | (at_builtin; refine wpList_append_new rfl (.tmp 25) (.tmp 34) 43 rfl w.heap.size 69 i0 (.agg #[.int .i64 0, .int .i64 0]) 2 16 Try.underlying43 hi hz0 hz1 hz2 rfl (by decide) u3 k (flat (tabN l k)) rfl (ownsRow_below HW.out ((Below.refl _ _).alloc (Nat.le_refl _) _)) w3.heap.size 1 [.int .i64 (pk + 1 + ax), .int .i64 (ay - 100)] rfl rfl (cell_new2 _ _ _ _) (one_pair _ _) (by unfold maxLen; omega) (by omega) (by have := HB.out.size; simp; omega) ?_; intro v2 w5 ho2 hB5; have HO2 := Lib.hid ho2; have HB5 := Lib.hid hB5; clear ho2 hB5))
      go_roundg (gk - 1)
      case measure => have := HG.out; have := HLT.out; omega
      case rel => exact ⟨k + 1, by have := HG.out; have := HLT.out; omega, by rw [HPS.out], by rw [show 2 * ((k + 1 : Nat) : Int) = 2 * (k : Int) + 2 by omega], own_any2 HO2.out rfl (by rw [HFK.out, HEN.out, HPS.out]), (HB.out.alloc HB.out.size _).trans HB5.out⟩
    · obtain rfl : k = m := by omega
      have t0 : ¬ (2 * (k : Int) + 1 < (n : Int) ∧ 2 * (k : Int) < 16) := by omega
      have hk8 : (k : Int) ≤ 8 := by omega
      have HFIN := Lib.hid (fun v (hv : wr.ownsRow w.heap.size 69 2 v k (flat (tabN l k))) => hv)
      have hp := HP.out k
      generalize pos l k = pk at *
      by_cases hkn : 2 * (k : Int) + 1 < (n : Int)
      · have hk16 : ¬ (2 * (k : Int) < 16) := by omega
        clear hm hlt t0
        go_wp2_with fail
        go_ret
        exact ⟨_, rfl, HW.out, HB.out⟩
      · clear hm hlt t0
        go_wp2_with fail
        go_ret
        exact ⟨_, rfl, HW.out, HB.out⟩
/-- A table that is read: its rows. -/
theorem seg_min {t : List Lp} (hs : Sorted t) (n : Int) {k : Nat} {x : Lp} (hx : t[k]? = some x) : x.pos ≤ n ↔ k < seg t n := by
  obtain ⟨a, b⟩ := seg_at hs.up n
  constructor
  · intro h
    rcases Nat.lt_or_ge k (seg t n) with h1 | h1
    · exact h1
    · have := b k x hx h1; omega
  · exact fun h => a k x hx h
set_option maxHeartbeats 2000000 in
theorem rcivil_any (t : List Lp) (n : Int) (A : Option Addr) (cap B : Nat) (w : World) (hB : B ≤ w.heap.size) (ht : RdsLp w B A t) (hl : t.length < 1000000) (hs : Sorted t) (hn : 0 ≤ n ∧ n ≤ 1000000) :
    Calls Try.prog 31 #[.slice A t.length cap, .int .i64 n] w fun e w' => e = .returned (.int .i64 (civ t n)) ∧ w' = w := by
  have HT := Lib.hid ht
  have hle := seg_le t n
  have HM := Lib.hid (fun k x (hx : t[k]? = some x) => seg_min hs n hx)
  have HGET := Lib.hid (fun k (hk : k < t.length) => (⟨t[k], List.getElem?_eq_getElem hk⟩ : ∃ x, t[k]? = some x))
  have HOS := Lib.hid (fun k x (hx : t[k]? = some x) => off_succ hx)
  have HO0 := Lib.hid (off_zero t)
  have HOB := Lib.hid (fun x (hx : x ∈ t) => hs.rng x hx)
  have hc : civ t n = n + off t (seg t n) := rfl
  rw [hc]
  clear hc ht hs
  generalize seg t n = s at *
  generalize hlen : t.length = l at *
  clear hlen
  go_enter Try.func31, Try.ntmps31
  go_wp2_with fail
  go_loopg [5, 6] l (fun g o i wr => ∃ k : Nat, k + g = l ∧ i = .int .i64 (k : Nat) ∧ o = .int .i64 (n + off t (min k s)) ∧ wr = w)
  case atStart => exact ⟨0, Nat.zero_add _, rfl, by rw [Nat.zero_min, HO0.out, Int.add_zero], rfl⟩
  case round =>
    obtain ⟨k, hg, rfl, rfl, rfl⟩ := hrel
    have HG := Lib.hid hg
    have hkl : k ≤ l := by omega
    clear hg
    by_cases hlt : k < l
    · have HLT := Lib.hid hlt
      have hki : (k : Int) < (l : Int) := by omega
      obtain ⟨x, hx⟩ := HGET.out k hlt
      obtain ⟨ad, rfl, _, hr⟩ := HT.out k x hx
      have c0 := hr.c0
      have c1 := hr.c1
      have hm := HM.out k x hx
      have ho := HOS.out k x hx
      have hb := HOB.out x (List.mem_of_getElem? hx)
      obtain ⟨xp, xo⟩ := x
      dsimp only at c0 c1 hm ho hb
      by_cases hp : xp ≤ n
      · have hks := hm.1 hp
        have HE := Lib.hid (show n + off t (min (k + 1) s) = n + xo by rw [Nat.min_eq_left (by omega), ho])
        clear hm ho hx hr hlt hks
        go_wp2_with fail
        go_roundg (gk - 1)
        case measure => have := HG.out; have := HLT.out; omega
        case rel => exact ⟨k + 1, by have := HG.out; have := HLT.out; omega, by go_num, by rw [HE.out], rfl⟩
      · have hks : ¬ k < s := fun h => hp (hm.2 h)
        have HE := Lib.hid (show n + off t (min (k + 1) s) = n + off t (min k s) by rw [Nat.min_eq_right (by omega), Nat.min_eq_right (by omega)])
        clear hm ho hx hr hlt hks
        go_wp2_with fail
        go_roundg (gk - 1)
        case measure => have := HG.out; have := HLT.out; omega
        case rel => exact ⟨k + 1, by have := HG.out; have := HLT.out; omega, by go_num, by rw [HE.out], rfl⟩
    · obtain rfl : k = l := by omega
      have HE := Lib.hid (show n + off t (min k s) = n + off t s by rw [Nat.min_eq_right hle])
      clear hlt
      go_wp2_with fail
      go_ret
      exact ⟨by rw [← HE.out]; rfl, rfl⟩
end K
end Go.Proofs.Ytlmbpbhdbgadjaa
