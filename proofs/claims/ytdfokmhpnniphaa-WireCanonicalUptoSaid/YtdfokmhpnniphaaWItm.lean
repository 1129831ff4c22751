/-
  Items, as the laws of package wire take them: how they lie in memory; what the specification writes of them.
-/
import Derived.Test.YtdfokmhpnniphaaWRdL
namespace Go.Proofs.Ytdfokmhpnniphaa
open Go.RowKit
namespace W
open H
set_option linter.unusedVariables false

/-- An item: its kind, its number, its integer, its bytes, its list (each with the slice that holds it), its limit. -/
structure Itm where
  k : Int
  u : Nat
  i : Int
  bA : Option Addr
  bn : Nat
  bc : Nat
  bs : List Int
  lA : Option Addr
  ln : Nat
  lc : Nat
  ls : List Int
  m : Int
def Itm.val (x : Itm) : Val := if x.k = 0 then .u x.u else if x.k = 1 then .i x.i else if x.k = 2 then .b x.bs else .l x.ls
structure Itm.Ok (x : Itm) : Prop where
  k : -9223372036854775808 ≤ x.k ∧ x.k ≤ 9223372036854775807
  u : x.u < 18446744073709551616
  i : -9223372036854775808 ≤ x.i ∧ x.i ≤ 9223372036854775807
  m : -9223372036854775808 ≤ x.m ∧ x.m ≤ 9223372036854775807
  bl : x.bs.length = x.bn
  bc : x.bn ≤ x.bc
  bm : x.bc ≤ maxLen
  bz : x.bA = none → x.bc = 0
  bb : Byt x.bs
  ll : x.ls.length = x.ln
  lc : x.ln ≤ x.lc
  lm : x.lc ≤ maxLen
  lz : x.lA = none → x.lc = 0
  lb : ∀ z ∈ x.ls, -9223372036854775808 ≤ z ∧ z ≤ 9223372036854775807
/-- The item's six cells from 'ad' on, and what its slices hold, in blocks below B. -/
structure RdItm (w : World) (B : Nat) (ad : Addr) (x : Itm) : Prop where
  c0 : w.cell? ad = some (.int .i64 x.k)
  c1 : w.cell? (ad.add 1) = some (.int .u64 x.u)
  c2 : w.cell? (ad.add 2) = some (.int .i64 x.i)
  c3 : w.cell? (ad.add 3) = some (.slice x.bA x.bn x.bc)
  c4 : w.cell? (ad.add 4) = some (.slice x.lA x.ln x.lc)
  c5 : w.cell? (ad.add 5) = some (.int .i64 x.m)
  rb : RdI w B .u8 x.bA x.bs
  rl : RdI w B .i64 x.lA x.ls
theorem RdItm.below {w w' : World} {B : Nat} {ad : Addr} {x : Itm} (h : RdItm w B ad x) (ha : ad.block < B) (hb : Below B w w') : RdItm w' B ad x :=
  ⟨(hb.cell ha).trans h.c0, (hb.cell (by rw [add_block]; exact ha)).trans h.c1, (hb.cell (by rw [add_block]; exact ha)).trans h.c2, (hb.cell (by rw [add_block]; exact ha)).trans h.c3,
    (hb.cell (by rw [add_block]; exact ha)).trans h.c4, (hb.cell (by rw [add_block]; exact ha)).trans h.c5, h.rb.below hb, h.rl.below hb⟩
/-- The slice at A holds the items xs. -/
def RdIt (w : World) (B : Nat) (A : Option Addr) (xs : List Itm) : Prop :=
  ∀ j x, xs[j]? = some x → ∃ ad, A = some ad ∧ ad.block < B ∧ RdItm w B (ad.add (j * 6)) x
theorem RdIt.below {w w' : World} {B : Nat} {A : Option Addr} {xs : List Itm} (h : RdIt w B A xs) (hb : Below B w w') : RdIt w' B A xs := fun j x hx => by
  obtain ⟨ad, e, ha, hr⟩ := h j x hx
  exact ⟨ad, e, ha, hr.below (by rw [add_block]; exact ha) hb⟩

theorem add_pos (a : Addr) (i : Nat) (h : 0 < i) : a.add i = ⟨a.block, a.off + i, none⟩ := by
  unfold Addr.add
  rw [if_neg (by omega)]
theorem enc_pos (v : Val) : 0 < (enc v).length := by
  cases v <;> simp only [enc, List.length_append]
  · exact encU_pos _
  · exact encU_pos _
  · exact Nat.lt_of_lt_of_le (encU_pos _) (Nat.le_add_right _ _)
  · exact Nat.lt_of_lt_of_le (encU_pos _) (Nat.le_add_right _ _)
theorem encAll_snoc (l : List Val) (v : Val) : encAll (l ++ [v]) = encAll l ++ enc v := by simp [encAll]
theorem encAll_take_le (l : List Val) (k : Nat) : (encAll (l.take k)).length ≤ (encAll l).length := by
  have h := congrArg (fun l => (encAll l).length) (List.take_append_drop k l)
  simp only [encAll, List.flatMap_append, List.length_append] at h ⊢
  omega

set_option maxRecDepth 100000 in
set_option maxHeartbeats 1000000 in
theorem encoded_any (A : Option Addr) (n c : Nat) (xs : List Itm) (w : World) (hl : xs.length = n) (hn : n ≤ 140737488351232) (hr : RdIt w w.heap.size A xs) (hok : ∀ x ∈ xs, x.Ok ∧ x.bs.length ≤ 140737488351232 ∧ x.ls.length ≤ 1048576) (htot : (encAll (xs.map Itm.val)).length ≤ 140737488351232) :
    Calls Try.prog 15 #[.slice A n c] w fun e w' => ∃ v, e = .returned v ∧ OwnB w w' (encAll (xs.map Itm.val)) v := by
  obtain ⟨i0, hi, hz0, hz1, hz2⟩ := info_parts infoB
  have HL := Lib.hid hl
  have HR := Lib.hid hr
  have HK := Lib.hid hok
  have HT := Lib.hid (fun k => Nat.le_trans (encAll_take_le (xs.map Itm.val) k) htot)
  clear hl hr hok htot
  go_enter Try.func15, Try.ntmps15
  go_wp2
  go_loopw [3, 4] (fun v i wr => ∃ k : Nat, k ≤ n ∧ i = .int .i64 k ∧ wr.ownsRow w.heap.size 5 1 v (encAll ((xs.map Itm.val).take k)).length ((encAll ((xs.map Itm.val).take k)).map (Value.int .u8)) ∧ Below w.heap.size w wr) (fun _ i _ => n - (intOf i).toNat)
  case atStart => exact ⟨0, by omega, rfl, World.ownsRow_nil _ _ _ _, Below.refl _ _⟩
  case round =>
    obtain ⟨k, hk, rfl, hown, hB⟩ := hrel
    have HO := Lib.hid hown
    have hsz := hB.size
    clear hown
    by_cases hlt : k < n
    · obtain ⟨x, hx⟩ : ∃ x, xs[k]? = some x := ⟨_, List.getElem?_eq_getElem (by rw [HL.out]; exact hlt)⟩
      obtain ⟨ad, rfl, ha, hr⟩ := (HR.out.below hB) k x hx
      have hrb := hr.rb
      have hrl := hr.rl
      obtain ⟨hc0, hc1, hc2, hc3, hc4, hc5, _, _⟩ := hr
      rw [add_pos _ _ (by decide)] at hc1 hc2 hc3 hc4
      clear hc5
      have hck := HK.out x (List.mem_of_getElem? hx)
      have HX := Lib.hid hx
      have HCK := Lib.hid hck
      have HRB := Lib.hid hrb
      have HRL := Lib.hid hrl
      have hnl : (encAll ((xs.map Itm.val).take (k + 1))) = encAll ((xs.map Itm.val).take k) ++ enc x.val := by
        rw [List.take_add_one, List.getElem?_map, hx]
        exact encAll_snoc _ _
      have HNL := Lib.hid hnl
      clear hx hck hrb hrl hnl
      have hu := HCK.out.1
      by_cases h0 : x.k = 0
      · rw [h0] at hc0
        have H0 := Lib.hid h0
        clear h0 hu
        have hval : x.val = .u x.u := by unfold Itm.val; exact if_pos H0.out
        have hcall : Calls Try.prog 40 #[.int .u64 x.u] wr fun e w' => ∃ v, e = .returned v ∧ OwnB wr w' (enc x.val) v := by rw [hval]; exact uint_any x.u wr HCK.out.1.u
        have hpp : 0 < (enc x.val).length := enc_pos _
        generalize enc x.val = ez at hcall hpp HNL
        have hlen : (encAll ((xs.map Itm.val).take k)).length + ez.length ≤ 140737488351232 := by
          have := HT.out (k + 1)
          rw [HNL.out, List.length_append] at this
          exact this
        have HPP := Lib.hid hpp
        clear hpp hval HCK HRB HRL
        generalize encAll ((xs.map Itm.val).take k) = pre at HO HNL hlen
        go_wp2_with fail
        refine hcall.mono ?_
        clear hcall
        rintro e w2 ⟨v2, rfl, hown2, hB2⟩
        obtain ⟨g2, c2, rfl, hg1, hg2⟩ := own_form hown2 HPP.out
        have hnews := (own_RdI hown2).news ez.length
        rw [List.take_of_length_le (Nat.le_refl _)] at hnews
        have hown := own_kept_below HO.out hB2
        have HN := Lib.hid hnews
        clear hnews hown2
        have hsz2 := (hB.trans (hB2.mono hsz)).size
        go_wp2_with (at_builtin; refine wpList_append_own _ rfl _ _ 24 rfl w.heap.size 5 i0 (.int .u8 0) 1 1 Try.underlying24 hi hz0 hz1 hz2 rfl (by decide) _ _ _ rfl hown ⟨g2, 0, none⟩ ez.length c2 (ez.map (Value.int .u8)) rfl (by rw [List.length_map, Nat.mul_one]) HN.out (one_cells _ _) (by unfold maxLen; omega) (by omega) hsz2 ?_; intro v' w3 hown' hgrow _)
        refine ⟨⟨k + 1, by omega, by go_num, ?_, (hB.trans (hB2.mono hsz)).trans (own_below0 hsz2 hown hgrow)⟩, by simp [intOf]; omega⟩
        rw [HNL.out, List.length_append, List.map_append]
        exact hown'
      · have g0 : (x.k == 0) = false := by simpa using h0
        by_cases h1 : x.k = 1
        · rw [h1] at hc0
          have H1 := Lib.hid h1
          clear h1 h0 g0 hu
          have hval : x.val = .i x.i := by unfold Itm.val; rw [if_neg (by rw [H1.out]; decide), if_pos H1.out]
          have hcall : Calls Try.prog 41 #[.int .i64 x.i] wr fun e w' => ∃ v, e = .returned v ∧ OwnB wr w' (enc x.val) v := by rw [hval]; exact int_any x.i wr HCK.out.1.i
          have hpp : 0 < (enc x.val).length := enc_pos _
          generalize enc x.val = ez at hcall hpp HNL
          have hlen : (encAll ((xs.map Itm.val).take k)).length + ez.length ≤ 140737488351232 := by
            have := HT.out (k + 1)
            rw [HNL.out, List.length_append] at this
            exact this
          have HPP := Lib.hid hpp
          clear hpp hval HCK HRB HRL
          generalize encAll ((xs.map Itm.val).take k) = pre at HO HNL hlen
          go_wp2_with fail
          refine hcall.mono ?_
          clear hcall
          rintro e w2 ⟨v2, rfl, hown2, hB2⟩
          obtain ⟨g2, c2, rfl, hg1, hg2⟩ := own_form hown2 HPP.out
          have hnews := (own_RdI hown2).news ez.length
          rw [List.take_of_length_le (Nat.le_refl _)] at hnews
          have hown := own_kept_below HO.out hB2
          have HN := Lib.hid hnews
          clear hnews hown2
          have hsz2 := (hB.trans (hB2.mono hsz)).size
          go_wp2_with (at_builtin; refine wpList_append_own _ rfl _ _ 24 rfl w.heap.size 5 i0 (.int .u8 0) 1 1 Try.underlying24 hi hz0 hz1 hz2 rfl (by decide) _ _ _ rfl hown ⟨g2, 0, none⟩ ez.length c2 (ez.map (Value.int .u8)) rfl (by rw [List.length_map, Nat.mul_one]) HN.out (one_cells _ _) (by unfold maxLen; omega) (by omega) hsz2 ?_; intro v' w3 hown' hgrow _)
          refine ⟨⟨k + 1, by omega, by go_num, ?_, (hB.trans (hB2.mono hsz)).trans (own_below0 hsz2 hown hgrow)⟩, by simp [intOf]; omega⟩
          rw [HNL.out, List.length_append, List.map_append]
          exact hown'
        · have g1 : (x.k == 1) = false := by simpa using h1
          by_cases h2 : x.k = 2
          · rw [h2] at hc0
            have H2 := Lib.hid h2
            clear h2 h1 h0 g0 g1 hu
            have hval : x.val = .b x.bs := by unfold Itm.val; rw [if_neg (by rw [H2.out]; decide), if_neg (by rw [H2.out]; decide), if_pos H2.out]
            have hcall : Calls Try.prog 42 #[.slice x.bA x.bn x.bc] wr fun e w' => ∃ v, e = .returned v ∧ OwnB wr w' (enc x.val) v := by rw [hval]; rw [enc, HCK.out.1.bl]; exact encb_any x.bA x.bn x.bc x.bs wr HCK.out.1.bl (by have := HCK.out.2.1; rw [HCK.out.1.bl] at this; exact this) (HRB.out.more hsz) (fun h => HCK.out.1.bz h)
            have hpp : 0 < (enc x.val).length := enc_pos _
            generalize enc x.val = ez at hcall hpp HNL
            have hlen : (encAll ((xs.map Itm.val).take k)).length + ez.length ≤ 140737488351232 := by
              have := HT.out (k + 1)
              rw [HNL.out, List.length_append] at this
              exact this
            have HPP := Lib.hid hpp
            clear hpp hval HCK HRB HRL
            generalize encAll ((xs.map Itm.val).take k) = pre at HO HNL hlen
            go_wp2_with fail
            refine hcall.mono ?_
            clear hcall
            rintro e w2 ⟨v2, rfl, hown2, hB2⟩
            obtain ⟨g2, c2, rfl, hg1, hg2⟩ := own_form hown2 HPP.out
            have hnews := (own_RdI hown2).news ez.length
            rw [List.take_of_length_le (Nat.le_refl _)] at hnews
            have hown := own_kept_below HO.out hB2
            have HN := Lib.hid hnews
            clear hnews hown2
            have hsz2 := (hB.trans (hB2.mono hsz)).size
            go_wp2_with (at_builtin; refine wpList_append_own _ rfl _ _ 24 rfl w.heap.size 5 i0 (.int .u8 0) 1 1 Try.underlying24 hi hz0 hz1 hz2 rfl (by decide) _ _ _ rfl hown ⟨g2, 0, none⟩ ez.length c2 (ez.map (Value.int .u8)) rfl (by rw [List.length_map, Nat.mul_one]) HN.out (one_cells _ _) (by unfold maxLen; omega) (by omega) hsz2 ?_; intro v' w3 hown' hgrow _)
            refine ⟨⟨k + 1, by omega, by go_num, ?_, (hB.trans (hB2.mono hsz)).trans (own_below0 hsz2 hown hgrow)⟩, by simp [intOf]; omega⟩
            rw [HNL.out, List.length_append, List.map_append]
            exact hown'
          · have g2 : (x.k == 2) = false := by simpa using h2
            have G := Lib.hid (And.intro h0 (And.intro h1 h2))
            clear h0 h1 h2 hu
            have hval : x.val = .l x.ls := by unfold Itm.val; rw [if_neg G.out.1, if_neg G.out.2.1, if_neg G.out.2.2]
            have hcall : Calls Try.prog 43 #[.slice x.lA x.ln x.lc] wr fun e w' => ∃ v, e = .returned v ∧ OwnB wr w' (enc x.val) v := by rw [hval]; rw [enc, HCK.out.1.ll]; exact enci_any x.lA x.ln x.lc x.ls wr HCK.out.1.ll (by have := HCK.out.2.2; rw [HCK.out.1.ll] at this; exact this) HCK.out.1.lb (HRL.out.more hsz)
            have hpp : 0 < (enc x.val).length := enc_pos _
            generalize enc x.val = ez at hcall hpp HNL
            have hlen : (encAll ((xs.map Itm.val).take k)).length + ez.length ≤ 140737488351232 := by
              have := HT.out (k + 1)
              rw [HNL.out, List.length_append] at this
              exact this
            have HPP := Lib.hid hpp
            clear hpp hval HCK HRB HRL
            generalize encAll ((xs.map Itm.val).take k) = pre at HO HNL hlen
            go_wp2_with fail
            refine hcall.mono ?_
            clear hcall
            rintro e w2 ⟨v2, rfl, hown2, hB2⟩
            obtain ⟨g2, c2, rfl, hg1, hg2⟩ := own_form hown2 HPP.out
            have hnews := (own_RdI hown2).news ez.length
            rw [List.take_of_length_le (Nat.le_refl _)] at hnews
            have hown := own_kept_below HO.out hB2
            have HN := Lib.hid hnews
            clear hnews hown2
            have hsz2 := (hB.trans (hB2.mono hsz)).size
            go_wp2_with (at_builtin; refine wpList_append_own _ rfl _ _ 24 rfl w.heap.size 5 i0 (.int .u8 0) 1 1 Try.underlying24 hi hz0 hz1 hz2 rfl (by decide) _ _ _ rfl hown ⟨g2, 0, none⟩ ez.length c2 (ez.map (Value.int .u8)) rfl (by rw [List.length_map, Nat.mul_one]) HN.out (one_cells _ _) (by unfold maxLen; omega) (by omega) hsz2 ?_; intro v' w3 hown' hgrow _)
            refine ⟨⟨k + 1, by omega, by go_num, ?_, (hB.trans (hB2.mono hsz)).trans (own_below0 hsz2 hown hgrow)⟩, by simp [intOf]; omega⟩
            rw [HNL.out, List.length_append, List.map_append]
            exact hown'
    · obtain rfl : k = n := by omega
      go_wp2
      go_ret
      refine ⟨_, rfl, ?_, hB⟩
      have h2 := HO.out
      rw [List.take_of_length_le (by rw [List.length_map, HL.out]; exact Nat.le_refl _)] at h2
      exact h2

end W
end Go.Proofs.Ytdfokmhpnniphaa
