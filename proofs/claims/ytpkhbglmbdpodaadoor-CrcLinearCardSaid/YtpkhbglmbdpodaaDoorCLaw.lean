/-
  Contracts of the helpers of the laws of layer 3: flip, mixed.
-/
import Derived.Test.YtpkhbglmbdpodaaDoorCRef
import Derived.Deep.AppendLies
import Derived.Deep.RegionLaw
import Derived.Deep.LoopGhost
namespace Go.Proofs.YtpkhbglmbdpodaaDoor
open Go.RowKit
namespace C
open H
set_option linter.unusedVariables false

set_option maxRecDepth 100000 in
set_option maxHeartbeats 1000000 in
theorem flip_any (A : Option Addr) (n c p : Nat) (bs : List Int) (w : World) (hl : bs.length = n) (hn : n ≤ 140737488351200) (hnil : A = none → c = 0) (hb : Byt bs) (hrd : RdI w w.heap.size .u8 A bs) (hp : p < 8 * n) :
    Calls Tryd.prog 25 #[.slice A n c, .int .i64 p] w fun e w' => ∃ v, e = .returned v ∧ OwnB w w' (ints (flipL (nats bs) p)) v := by
  obtain ⟨i0, hi, hz0, hz1, hz2⟩ := info_parts infoB
  have HL := Lib.hid hl
  have HB8 := Lib.hid hb
  have HR := Lib.hid hrd
  rcases A with _ | ad
  · obtain ⟨_, e, _⟩ := hrd 0 (by omega)
    cases e
  have hB := (Below.refl w.heap.size w).alloc (Nat.le_refl _) (.cells #[] 5)
  have hown : (w.alloc (.cells #[] 5)).ownsRow w.heap.size 5 1 (.slice (some ⟨w.heap.size, 0, none⟩) 0 0) 0 [] := World.ownsRow_made w #[] 0 (Nat.le_refl _) (by decide) (by simp)
  have hnews := (hrd.below hB).news n
  rw [List.take_of_length_le (by omega)] at hnews
  have HO := Lib.hid hown
  have HB := Lib.hid hB
  have HNW := Lib.hid hnews
  obtain ⟨k, hk⟩ : ∃ k, p / 8 = k := ⟨_, rfl⟩
  obtain ⟨j, hj⟩ : ∃ j, p % 8 = j := ⟨_, rfl⟩
  have e8 : (p : Int) / 8 = (k : Int) := by omega
  have e9 : (p : Int) % 8 = (j : Int) := by omega
  have hk0 : (0 : Int) ≤ (k : Int) := by omega
  have hk1 : (k : Int) < (n : Int) := by omega
  have hkn : k < n := by omega
  have hj8 : j < 8 := by omega
  have HKJ := Lib.hid (And.intro hk hj)
  have gx : bs[k]? = some (bs[k]?.getD 0) := by rw [List.getElem?_eq_getElem (by omega)]; rfl
  obtain ⟨z, hz⟩ : ∃ z, bs[k]?.getD 0 = z := ⟨_, rfl⟩
  rw [hz] at gx
  have hz8 := byt_at hb gx
  obtain ⟨z, rfl⟩ : ∃ y : Nat, z = y := ⟨z.toNat, by omega⟩
  have GX := Lib.hid gx
  have HZ8 := Lib.hid hz8
  clear hl hb hrd hnil hB hown hnews hp hk hj gx hz hz8
  go_enter Tryd.func25, Tryd.ntmps25
  go_wp2_with (at_builtin; refine wpList_append_own _ rfl _ _ 22 rfl w.heap.size 5 i0 (.int .u8 0) 1 1 Tryd.underlying22 hi hz0 hz1 hz2 rfl (by decide) _ _ _ rfl HO.out ad n c (bs.map (Value.int .u8)) rfl (by rw [List.length_map, HL.out]; omega) HNW.out (one_cells _ _) (by unfold maxLen; omega) (by omega) (by simp) ?_; intro v' w2 hown' hgrow _; have ho2 : w2.ownsRow w.heap.size 5 1 v' n (bs.map (Value.int .u8)) := by { simpa using hown' }; obtain ⟨g, cap, rfl, hg1, hg2⟩ := own_form ho2 (by omega); have HO2 := Lib.hid ho2; have HB2 := Lib.hid (HB.out.trans (own_below0 (by simp) HO.out hgrow)); have hc : w2.cell? ⟨g, k, none⟩ = some (.int .u8 z) := by { rw [ho2.cellAt k (by omega), List.getElem?_map, GX.out]; rfl }; have hf := ho2.frozenAt k; have hcA : w2.cell? ((⟨g, 0, none⟩ : Addr).add k) = some (.int .u8 z) := by { rw [show (⟨g, 0, none⟩ : Addr).add k = ⟨g, k, none⟩ from by unfold Addr.add; split <;> simp_all]; exact hc }; have hfA : w2.frozen? ((⟨g, 0, none⟩ : Addr).add k) = false := by { rw [show (⟨g, 0, none⟩ : Addr).add k = ⟨g, k, none⟩ from by unfold Addr.add; split <;> simp_all]; exact hf }; clear hown' hgrow ho2)
  go_ret
  have hlt : 2 ^ j < 256 := Nat.pow_lt_pow_right (by decide) hj8 (m := j) (n := 8)
  have ex : bits .xor .u8 (z : Int) (2 ^ j % 256) = ((z ^^^ 2 ^ j : Nat) : Int) := by
    have e := u8_xor_nat z (2 ^ j) (by have := HZ8.out; omega) hlt
    have e3 : ((2 ^ j : Nat) : Int) = (2 : Int) ^ j := by simp
    rw [← e3, Int.emod_eq_of_lt (Int.natCast_nonneg _) (by omega)]
    exact e
  have hfl : ints (flipL (nats bs) p) = bs.set k ((z ^^^ 2 ^ j : Nat) : Int) := by
    unfold flipL
    rw [HKJ.out.1, HKJ.out.2]
    have hz : (nats bs)[k]?.getD 0 = z := by simp [nats, GX.out]
    rw [hz, ints, List.map_set]
    exact congrArg (fun l => List.set l k _) (ints_nats HB8.out)
  refine ⟨_, rfl, ?_, HB2.out.setCell (p := ⟨g, k, none⟩) hg1 _⟩
  have hst := (HO2.out.stored k (.int .u8 ((z ^^^ 2 ^ j : Nat) : Int))).1
  rw [hfl, List.length_set, HL.out, List.map_set, ex]
  exact hst
theorem xors_at {xs ys : List Nat} {k a b : Nat} (hx : xs[k]? = some a) (hy : ys[k]? = some b) : (xors xs ys)[k]? = some (a ^^^ b) := by
  unfold xors
  rw [List.getElem?_zipWith, hx, hy]
theorem nats_at {bs : List Int} {k : Nat} {z : Nat} (h : bs[k]? = some (z : Int)) : (nats bs)[k]? = some z := by simp [nats, h]
theorem byt_nat {bs : List Int} (hb : Byt bs) {k n : Nat} (hl : bs.length = n) (hk : k < n) : ∃ z : Nat, bs[k]? = some (z : Int) ∧ bs[k]?.getD 0 = (z : Int) ∧ z < 256 := by
  have g : bs[k]? = some (bs[k]?.getD 0) := by rw [List.getElem?_eq_getElem (by omega)]; rfl
  have h := byt_at hb g
  obtain ⟨z, hz⟩ : ∃ z : Nat, bs[k]?.getD 0 = z := ⟨(bs[k]?.getD 0).toNat, by omega⟩
  exact ⟨z, by rw [g, hz], hz, by omega⟩
set_option maxRecDepth 100000 in
set_option maxHeartbeats 1000000 in
theorem mixed_any (A0 A1 A2 : Option Addr) (n0 n1 n2 c0 c1 c2 : Nat) (a b c : List Int) (w : World) (l0 : a.length = n0) (l1 : b.length = n1) (l2 : c.length = n2) (hn : n0 ≤ 140737488351232) (b0 : Byt a) (b1 : Byt b) (b2 : Byt c)
    (r0 : RdI w w.heap.size .u8 A0 a) (r1 : RdI w w.heap.size .u8 A1 b) (r2 : RdI w w.heap.size .u8 A2 c) :
    Calls Tryd.prog 24 #[.slice A0 n0 c0, .slice A1 n1 c1, .slice A2 n2 c2] w fun e w' => ∃ v, e = .returned v ∧ OwnB w w' (ints (xors (xors (nats a) (nats b)) (nats c))) v := by
  obtain ⟨i0, hi, hz0, hz1, hz2⟩ := info_parts infoB
  obtain ⟨X, hX⟩ : ∃ X, xors (xors (nats a) (nats b)) (nats c) = X := ⟨_, rfl⟩
  have hXl : X.length = min (min n0 n1) n2 := by rw [← hX]; unfold xors; rw [List.length_zipWith, List.length_zipWith, nats_len, nats_len, nats_len, l0, l1, l2]
  rw [hX]
  have L := Lib.hid (And.intro l0 (And.intro l1 l2))
  have BB := Lib.hid (And.intro b0 (And.intro b1 b2))
  have RR := Lib.hid (And.intro r0 (And.intro r1 r2))
  have HX := Lib.hid (And.intro hX hXl)
  clear l0 l1 l2 b0 b1 b2 r0 r1 r2 hX hXl
  go_enter Tryd.func24, Tryd.ntmps24
  go_wp2_with fail
  go_loopg [7, 8] X.length (fun g v i wr => ∃ k : Nat, k + g = X.length ∧ i = .int .i64 k ∧ wr.ownsRow w.heap.size 5 1 v k ((ints (X.take k)).map (Value.int .u8)) ∧ Below w.heap.size w wr)
  case atStart => exact ⟨0, Nat.zero_add _, rfl, World.ownsRow_nil _ _ _ _, Below.refl _ _⟩
  case round =>
    obtain ⟨k, hg, rfl, hown, hB⟩ := hrel
    obtain ⟨v, hv6⟩ : ∃ v, v = u7 := ⟨_, rfl⟩
    subst hv6
    have HG := Lib.hid hg
    have HO := Lib.hid hown
    have HB := Lib.hid hB
    have hle : k ≤ X.length := by omega
    have hmin := HX.out.2
    clear hown hB hg
    by_cases hlt : k < X.length
    · have hk0 : k < n0 := by omega
      have hk1 : k < n1 := by omega
      have hk2 : k < n2 := by omega
      obtain ⟨za, ga, ga', la⟩ := byt_nat BB.out.1 L.out.1 hk0
      obtain ⟨zb, gb, gb', lb⟩ := byt_nat BB.out.2.1 L.out.2.1 hk1
      obtain ⟨zc, gc, gc', lc⟩ := byt_nat BB.out.2.2 L.out.2.2 hk2
      obtain ⟨ad0, rfl, _, x0⟩ := (RR.out.1.below HB.out.drew) k (by rw [L.out.1]; exact hk0)
      obtain ⟨ad1, rfl, _, x1⟩ := (RR.out.2.1.below HB.out.drew) k (by rw [L.out.2.1]; exact hk1)
      obtain ⟨ad2, rfl, _, x2⟩ := (RR.out.2.2.below HB.out.drew) k (by rw [L.out.2.2]; exact hk2)
      rw [ga'] at x0
      rw [gb'] at x1
      rw [gc'] at x2
      have e1 := u8_xor_nat za zb la lb
      have e2 := u8_xor_nat (za ^^^ zb) zc (lt_xor (n := 8) la lb) lc
      have hXk : X[k]? = some (za ^^^ zb ^^^ zc) := by rw [← HX.out.1]; exact xors_at (xors_at (nats_at ga) (nats_at gb)) (nats_at gc)
      have HXK := Lib.hid hXk
      have i1 : (0 : Int) ≤ (k : Int) := by omega
      have i2 : (k : Int) < (n0 : Int) := by omega
      have i3 : (k : Int) < (n1 : Int) := by omega
      have i4 : (k : Int) < (n2 : Int) := by omega
      have hHO := HO.out
      have hs := HB.out.size
      clear ga gb gc ga' gb' gc' hmin hXk
      generalize za ^^^ zb ^^^ zc = zz at *
      have hHD : wr.drew.ownsRow w.heap.size 5 1 v k ((ints (X.take k)).map (Value.int .u8)) := hHO
      have HHD := Lib.hid hHD
      clear hHD hHO
      go_wp2_with fail
      go_region_law (refine step_append_lies _ rfl (.tmp 27) (.tmp 42) 22 rfl w.heap.size 5 i0 _ 1 1 Tryd.underlying22 hi hz0 hz1 hz2 rfl (by decide) v k ((ints (X.take k)).map (Value.int .u8)) rfl (HHD.out.alloc _) ⟨wr.heap.size, 0, none⟩ 1 1 [.int .u8 ((zz : Nat) : Int)] rfl rfl (cell_one_new _ _ _) (by simp [Value.oneCell']) (by decide) (by unfold maxLen; omega) (by omega) (by simp; omega) _ rfl ?_; intro g cap w9 hown' hgrow hat hlt; have HO9 := Lib.hid hown'; have HG9 := Lib.hid hgrow; clear hown' hgrow hat)
      all_goals
        go_wp2_with fail
        go_roundg (gk - 1)
        case measure => have := HG.out; omega
        case rel =>
          have hX2 : (ints (X.take (k + 1))).map (Value.int .u8) = (ints (X.take k)).map (Value.int .u8) ++ [.int .u8 ((zz : Nat) : Int)] := by
            rw [List.take_add_one, HXK.out]
            simp [ints]
          exact ⟨k + 1, by have := HG.out; omega, by go_num, by rw [hX2]; exact HO9.out, HB.out.drew.trans (own_below (by show w.heap.size ≤ wr.heap.size; exact hs) HHD.out HG9.out)⟩
    · have hk : k = X.length := by omega
      have fin : OwnB w wr (ints X) v := by
        have h := HO.out
        rw [List.take_of_length_le (by omega), hk, ← ints_len X] at h
        exact ⟨h, HB.out⟩
      have FIN := Lib.hid fin
      clear fin
      by_cases h0 : k < n0
      · by_cases h1 : k < n1
        · have h2 : ¬ k < n2 := by omega
          have i2 : (k : Int) < (n0 : Int) := by omega
          have i3 : (k : Int) < (n1 : Int) := by omega
          have i4 : ¬ (k : Int) < (n2 : Int) := by omega
          clear hk hmin
          go_wp2_with fail
          go_ret
          exact ⟨v, rfl, FIN.out⟩
        · have i2 : (k : Int) < (n0 : Int) := by omega
          have i3 : ¬ (k : Int) < (n1 : Int) := by omega
          clear hk hmin
          go_wp2_with fail
          go_ret
          exact ⟨v, rfl, FIN.out⟩
      · have i2 : ¬ (k : Int) < (n0 : Int) := by omega
        clear hk hmin
        go_wp2_with fail
        go_ret
        exact ⟨v, rfl, FIN.out⟩
/-- What Open answers, by the register. -/
theorem open_code {bs : List Int} (hb : Byt bs) (h4 : 4 ≤ bs.length) : (openR bs).2 = if reg ones (nats bs) = st 32 ones then 0 else 8 := by
  unfold openR
  rw [if_neg (by omega)]
  have hx := nats_byt (byt_take hb (bs.length - 4))
  have hyb : Byt (bs.drop (bs.length - 4)) := fun x hx => hb x (List.mem_of_mem_drop hx)
  have hy := nats_byt hyb
  have hl : (nats (bs.drop (bs.length - 4))).length = 4 := by rw [nats_len, List.length_drop]; omega
  have hiff := sealed_iff hx hy hl
  rw [← nats_append, List.take_append_drop] at hiff
  have e1 : bs.drop (bs.length - 4) = ints (le4 (sum (nats (bs.take (bs.length - 4))))) ↔ nats (bs.drop (bs.length - 4)) = le4 (sum (nats (bs.take (bs.length - 4)))) := by
    constructor
    · intro h; rw [h, nats_ints]
    · intro h; rw [← h, ints_nats hyb]
  have hif := e1.trans hiff
  by_cases h : reg ones (nats bs) = st 32 ones
  · rw [if_pos h, if_pos (hif.2 h)]
  · rw [if_neg h, if_neg (fun k => h (hif.1 k))]
/-- A slice changed in the bits of e. -/
def chg (s : List Nat) (e : Nat) : List Nat := xors s (digits s.length e)
theorem chg_len (s : List Nat) (e : Nat) : (chg s e).length = s.length := xors_len (digits_len _ _).symm
theorem chg_zero (s : List Nat) : chg s 0 = s := by unfold chg; rw [digits_zero, xors_zeros]
theorem chg_chg (s : List Nat) (e f : Nat) : chg (chg s e) f = chg s (e ^^^ f) := by
  have h := chg_len s e
  unfold chg at h ⊢
  rw [h, xors_assoc, xors_digits]
theorem chg_flip {s : List Nat} {e p : Nat} (hp : p < 8 * s.length) : flipL (chg s e) p = chg s (e ^^^ 2 ^ p) := by
  rw [flip_eq (chg s e) p (by rw [chg_len]; exact hp), ← chg_chg]
  rfl
theorem xors_byt {xs bs : List Nat} (hx : ∀ b ∈ xs, b < 256) (hb : ∀ b ∈ bs, b < 256) : ∀ b ∈ xors xs bs, b < 256 := fun z hz => by
  obtain ⟨i, hi⟩ := List.mem_iff_getElem?.1 hz
  unfold xors at hi
  rw [List.getElem?_zipWith] at hi
  split at hi
  · rename_i p q hp hq
    injection hi with hi
    rw [← hi]
    exact lt_xor (n := 8) (hx p (List.mem_of_getElem? hp)) (hb q (List.mem_of_getElem? hq))
  · cases hi
theorem chg_byt {s : List Nat} (hs : ∀ b ∈ s, b < 256) (e : Nat) : ∀ b ∈ chg s e, b < 256 := xors_byt hs (digits_byt _ _)
theorem code_chg {s : List Nat} (hs : ∀ b ∈ s, b < 256) (hk : reg ones s = st 32 ones) (h4 : 4 ≤ s.length) {e : Nat} (he : e < 256 ^ s.length) : (openR (ints (chg s e))).2 = if st (8 * s.length) e = 0 then 0 else 8 := by
  rw [open_code (ints_byt (chg_byt hs e)) (by rw [ints_len, chg_len]; exact h4), nats_ints]
  unfold chg
  rw [reg_change s e he, hk]
  by_cases h : st (8 * s.length) e = 0
  · rw [if_pos h, h, Nat.xor_zero, if_pos rfl]
  · rw [if_neg h, if_neg]
    intro k
    apply h
    have k2 := congrArg (st 32 ones ^^^ ·) k
    simp only [← Nat.xor_assoc, Nat.xor_self, Nat.zero_xor] at k2
    exact k2
/-- The sealed slice, as numbers. -/
def sea (bs : List Int) : List Nat := nats bs ++ le4 (sum (nats bs))
theorem sea_ints {bs : List Int} (hb : Byt bs) : bs ++ ints (le4 (sum (nats bs))) = ints (sea bs) := by
  have h := ints_nats hb
  unfold sea ints at *
  rw [List.map_append, h]
theorem sea_len (bs : List Int) : (sea bs).length = bs.length + 4 := by
  unfold sea
  rw [List.length_append, nats_len]
  exact congrArg (bs.length + ·) (digits_len 4 _)
theorem sea_byt {bs : List Int} (hb : Byt bs) : ∀ b ∈ sea bs, b < 256 := fun b h => by
  rcases List.mem_append.1 h with h | h
  · exact nats_byt hb b h
  · exact digits_byt 4 _ b h
theorem sea_reg {bs : List Int} (hb : Byt bs) : reg ones (sea bs) = st 32 ones := reg_seal (nats_byt hb)
theorem pow_lt {p n : Nat} (h : p < 8 * n) : 2 ^ p < 256 ^ n := by rw [pow256]; exact Nat.pow_lt_pow_right (by decide) h
theorem two_lt {p q n : Nat} (h : p < 8 * n) (k : q < 8 * n) : 2 ^ p ^^^ 2 ^ q < 256 ^ n := by
  have h1 := pow_lt h
  have h2 := pow_lt k
  rw [pow256] at *
  exact lt_xor h1 h2
theorem digits_shift : ∀ (n k v : Nat), k < n → v < 256 → digits n (2 ^ (8 * k) * v) = zeros k ++ v :: zeros (n - k - 1)
  | 0, k, v, h, _ => by omega
  | n + 1, 0, v, _, hv => by
    show (2 ^ (8 * 0) * v) % 256 :: digits n (2 ^ (8 * 0) * v / 256) = v :: zeros (n + 1 - 0 - 1)
    rw [Nat.mul_zero, Nat.pow_zero, Nat.one_mul, Nat.mod_eq_of_lt hv, Nat.div_eq_of_lt hv, digits_zero]
    rfl
  | n + 1, k + 1, v, h, hv => by
    have e : 2 ^ (8 * (k + 1)) * v = 256 * (2 ^ (8 * k) * v) := by rw [show 8 * (k + 1) = 8 * k + 8 from by omega, Nat.pow_add, Nat.mul_comm (2 ^ (8 * k)) (2 ^ 8), Nat.mul_assoc]
    show (2 ^ (8 * (k + 1)) * v) % 256 :: digits n (2 ^ (8 * (k + 1)) * v / 256) = _
    rw [e, Nat.mul_mod_right, Nat.mul_div_cancel_left _ (by decide), digits_shift n k v (by omega) hv]
    show 0 :: (zeros k ++ _) = 0 :: (zeros k ++ _)
    rw [show n + 1 - (k + 1) - 1 = n - k - 1 from by omega]
theorem set_xors : ∀ (s : List Nat) (k v : Nat), k < s.length → s.set k (s[k]?.getD 0 ^^^ v) = xors s (zeros k ++ v :: zeros (s.length - k - 1))
  | [], k, v, h => by simp at h
  | a :: s, 0, v, _ => by
    show (a ^^^ v) :: s = (a ^^^ v) :: xors s (zeros s.length)
    rw [xors_zeros]
  | a :: s, k + 1, v, h => by
    show a :: s.set k (s[k]?.getD 0 ^^^ v) = (a ^^^ 0) :: xors s (zeros k ++ v :: zeros ((a :: s).length - (k + 1) - 1))
    rw [set_xors s k v (by simpa using h), Nat.xor_zero]
    rw [show (a :: s).length - (k + 1) - 1 = s.length - k - 1 from by simp only [List.length_cons]; omega]
/-- A byte is changed. -/
theorem set_chg {s : List Nat} {k v : Nat} (hk : k < s.length) (hv : v < 256) : s.set k (s[k]?.getD 0 ^^^ v) = chg s (2 ^ (8 * k) * v) := by
  unfold chg
  rw [set_xors s k v hk, digits_shift _ _ _ hk hv]
end C
end Go.Proofs.YtpkhbglmbdpodaaDoor
