/-
  For every byte slice and every list that hold together at most 1048576 values, WireOwns returns true: changing a slice after it was passed to a Writer or a Reader, or after it was returned, changes neither what Done returns nor what is read.
-/
import Derived.Test.YtdfokmhpnniphaaWLives
import Derived.Test.YtdfokmhpnniphaaWWritten
import Derived.Deep.DeepCutAuto
import Derived.Deep.LoopGhost
namespace Go.Proofs.Ytdfokmhpnniphaa.wireOwns
open Go.ChangeShapes Go.WideShapes Go.ChangeAt Go.RowKit
open Go.ChangeMaps (open_string shut_string)
set_option linter.unusedVariables false
/-- An own row stays where another own row is written. -/
theorem own_apart {w w' : World} {base n : Nat} {e : TypeId} {v v' : Value} {xs : List Value} (h : w.ownsRow base e 1 v n xs) (hs : W.Save (fun j => v'.ownBlock = some j) w w') (hd : ∀ j, v.ownBlock = some j → v'.ownBlock ≠ some j) : w'.ownsRow base e 1 v n xs := by
  refine ⟨h.1, ?_⟩
  rcases h.2 with h2 | ⟨g, cap, cur, rfl, hg, hh, hr⟩
  · exact .inl h2
  · exact .inr ⟨g, cap, cur, rfl, hg, (hs.block g (W.blk_lt hh) (hd g rfl)).trans hh, hr⟩
theorem own_disj {A A' : Option Addr} {n n' c c' B : Nat} (h : ∀ a, A = some a → B ≤ a.block) (h' : ∀ a, A' = some a → a.block < B) : ∀ j, (Value.slice A n c).ownBlock = some j → (Value.slice A' n' c').ownBlock ≠ some j := by
  intro j hj hj'
  rcases A with _ | a
  · simp [Value.ownBlock] at hj
  · rcases A' with _ | a'
    · simp [Value.ownBlock] at hj'
    · have e1 : a.block = j := by simpa [Value.ownBlock] using hj
      have e2 : a'.block = j := by simpa [Value.ownBlock] using hj'
      have := h a rfl
      have := h' a' rfl
      omega

theorem own_blk {A : Option Addr} {n c j : Nat} (h : (Value.slice A n c).ownBlock = some j) : ∃ a, A = some a ∧ a.block = j := by
  rcases A with _ | a
  · simp [Value.ownBlock] at h
  · exact ⟨a, rfl, by simpa [Value.ownBlock] using h⟩
theorem own_aside {w w' : World} {base n : Nat} {e : TypeId} {v : Value} {xs : List Value} {F : Nat → Prop} (h : w.ownsRow base e 1 v n xs) (hs : W.Save F w w') (hd : ∀ j, v.ownBlock = some j → ¬ F j) : w'.ownsRow base e 1 v n xs := by
  refine ⟨h.1, ?_⟩
  rcases h.2 with h2 | ⟨g, cap, cur, rfl, hg, hh, hr⟩
  · exact .inl h2
  · exact .inr ⟨g, cap, cur, rfl, hg, (hs.block g (W.blk_lt hh) (hd g rfl)).trans hh, hr⟩
theorem own_lt {w : World} {base n : Nat} {e : TypeId} {v : Value} {xs : List Value} (h : w.ownsRow base e 1 v n xs) : ∀ j, v.ownBlock = some j → j < w.heap.size := fun j hj => by
  obtain ⟨A, c, rfl⟩ := H.own_shape h
  obtain ⟨a, e, rfl⟩ := own_blk hj
  exact ((W.own_cap h).2.2.2.2 a e).2
theorem wat_aside {w w' : World} {b : Nat} {v : Value} {bs : List Int} {F : Nat → Prop} (h : W.WAt w b v bs) (hs : W.Save F w w') (hb : ¬ F b) (hv : ∀ j, v.ownBlock = some j → ¬ F j) : W.WAt w' b v bs :=
  ⟨(hs.block b (W.blk_lt h.blk) hb).trans h.blk, own_aside h.own hs hv⟩

set_option maxRecDepth 100000 in
set_option maxHeartbeats 1000000 in
theorem walk (a0 : Option Addr) (n0 c0 : Nat) (z0 : List Int) (a1 : Option Addr) (n1 c1 : Nat) (z1 : List Int) (w : World) (l0 : z0.length = n0) (cp0 : n0 ≤ c0 ∧ c0 ≤ maxLen) (nz0 : a0 = none → c0 = 0) (rd0 : H.RdI w w.heap.size .u8 a0 z0) (wf0 : ∀ n ∈ z0, (Lit.int .u8 n).wf = true) (bk0 : z0.length ≤ 1048575) (l1 : z1.length = n1) (cp1 : n1 ≤ c1 ∧ c1 ≤ maxLen) (nz1 : a1 = none → c1 = 0) (rd1 : H.RdI w w.heap.size .i64 a1 z1) (wf1 : ∀ n ∈ z1, (Lit.int .i64 n).wf = true) (bk1 : z1.length ≤ 1048575) :
    Calls Try.prog 12 #[.slice a0 n0 c0, .slice a1 n1 c1] w fun e w' => e = .returned (.bool true) ∧ Below w.heap.size w w' := by
  have hb8 := H.u8_byt wf0
  have hi64 : ∀ z ∈ z1, -9223372036854775808 ≤ z ∧ z ≤ 9223372036854775807 := fun z hz => H.i64_range (wf1 z hz)
  have hn0 : n0 ≤ 1048575 := by omega
  have hn1 : n1 ≤ 1048575 := by omega
  have HR0 := Lib.hid rd0
  have HR1 := Lib.hid rd1
  have HL0 := Lib.hid l0
  have HL1 := Lib.hid l1
  have HN0 := Lib.hid nz0
  have HN1 := Lib.hid nz1
  have HB8 := Lib.hid hb8
  have HI6 := Lib.hid hi64
  obtain ⟨i0, hi, hz0, hz1, hz2⟩ := info_parts W.infoB
  obtain ⟨j0, hj, jz0, jz1, jz2⟩ := info_parts W.infoI
  have HC0 := Lib.hid cp0
  have HC1 := Lib.hid cp1
  clear rd0 rd1 l0 l1 nz0 nz1 hb8 hi64 wf0 wf1 bk0 bk1 cp0 cp1
  go_enter Try.func12, Try.ntmps12
  go_upto_region 1 with fail
  go_cut [5] (fun sx wc => wc.ownsRow w.heap.size 5 1 sx n0 (z0.map (Value.int .u8)) ∧ Below w.heap.size w wc)
  case first =>
    have hB := (Below.refl w.heap.size w).alloc (Nat.le_refl _) (.cells #[] 5)
    have hown : (w.alloc (.cells #[] 5)).ownsRow w.heap.size 5 1 (.slice (some ⟨w.heap.size, 0, none⟩) 0 0) 0 [] := World.ownsRow_made w #[] 0 (Nat.le_refl _) (by decide) (by simp)
    have HO := Lib.hid hown
    have HB := Lib.hid hB
    clear hown hB
    rcases a0 with _ | ad
    · obtain rfl : z0 = [] := by
        rcases z0 with _ | ⟨z, zs⟩
        · rfl
        · obtain ⟨_, e, _⟩ := HR0.out 0 (by simp)
          cases e
      obtain rfl : n0 = 0 := by rw [← HL0.out]; rfl
      obtain rfl := HN0.out rfl
      go_wp2_with (at_builtin; go_must (refine wpList_append_own_none rfl _ _ 24 rfl w.heap.size 5 i0 1 Try.underlying24 hi _ _ _ rfl HO.out rfl ?_))
      go_meet
      exact ⟨HO.out, HB.out⟩
    · have hnews := (HR0.out.below HB.out).news n0
      rw [List.take_of_length_le (by rw [HL0.out]; exact Nat.le_refl _)] at hnews
      have hnl : (z0.map (Value.int .u8)).length = n0 * 1 := by rw [List.length_map, HL0.out]; omega
      have HNW := Lib.hid hnews
      have HNL := Lib.hid hnl
      clear hnews hnl
      go_wp2_with (at_builtin; refine wpList_append_own _ rfl _ _ 24 rfl w.heap.size 5 i0 (.int .u8 0) 1 1 Try.underlying24 hi hz0 hz1 hz2 rfl (by decide) _ _ _ rfl HO.out ad n0 c0 (z0.map (Value.int .u8)) rfl HNL.out HNW.out (H.one_cells _ _) (by unfold maxLen; omega) (by omega) (by simp) ?_; intro v' w2 hown' hgrow _; have HO2 := Lib.hid hown'; have HB2 := Lib.hid (HB.out.trans (W.own_below0 (by simp) HO.out hgrow)); clear hown' hgrow)
      go_meet
      refine ⟨?_, HB2.out⟩
      simpa using HO2.out
  case rest =>
    obtain ⟨ho1, hB1⟩ := hcut
    obtain ⟨w1, hw1⟩ : ∃ w1, w1 = wc := ⟨_, rfl⟩
    subst hw1
    obtain ⟨A1, q1, rfl⟩ := H.own_shape ho1
    have HR1' := Lib.hid ((HR1.out.below hB1).more hB1.size)
    have HO1 := Lib.hid ho1
    have HB1 := Lib.hid hB1
    clear ho1 hB1
    go_upto_region 2 with fail
    go_cut [6] (fun sx wc => wc.ownsRow w1.heap.size 3 1 sx n1 (z1.map (Value.int .i64)) ∧ Below w1.heap.size w1 wc)
    case first =>
      have hB := (Below.refl w1.heap.size w1).alloc (Nat.le_refl _) (.cells #[] 3)
      have hown : (w1.alloc (.cells #[] 3)).ownsRow w1.heap.size 3 1 (.slice (some ⟨w1.heap.size, 0, none⟩) 0 0) 0 [] := World.ownsRow_made w1 #[] 0 (Nat.le_refl _) (by decide) (by simp)
      have HO := Lib.hid hown
      have HB := Lib.hid hB
      clear hown hB
      rcases a1 with _ | ad
      · obtain rfl : z1 = [] := by
          rcases z1 with _ | ⟨z, zs⟩
          · rfl
          · obtain ⟨_, e, _⟩ := HR1'.out 0 (by simp)
            cases e
        obtain rfl : n1 = 0 := by rw [← HL1.out]; rfl
        obtain rfl := HN1.out rfl
        go_wp2_with (at_builtin; go_must (refine wpList_append_own_none rfl _ _ 44 rfl w1.heap.size 3 j0 1 Try.underlying44 hj _ _ _ rfl HO.out rfl ?_))
        go_meet
        exact ⟨HO.out, HB.out⟩
      · have hnews := (HR1'.out.below HB.out).news n1
        rw [List.take_of_length_le (by rw [HL1.out]; exact Nat.le_refl _)] at hnews
        have hnl : (z1.map (Value.int .i64)).length = n1 * 1 := by rw [List.length_map, HL1.out]; omega
        have HNW := Lib.hid hnews
        have HNL := Lib.hid hnl
        clear hnews hnl
        go_wp2_with (at_builtin; refine wpList_append_own _ rfl _ _ 44 rfl w1.heap.size 3 j0 (.int .i64 0) 1 8 Try.underlying44 hj jz0 jz1 jz2 rfl (by decide) _ _ _ rfl HO.out ad n1 c1 (z1.map (Value.int .i64)) rfl HNL.out HNW.out (H.one_cells _ _) (by unfold maxLen; omega) (by omega) (by simp) ?_; intro v' w2 hown' hgrow _; have HO2 := Lib.hid hown'; have HB2 := Lib.hid (HB.out.trans (W.own_below0 (by simp) HO.out hgrow)); clear hown' hgrow)
        go_meet
        refine ⟨?_, HB2.out⟩
        simpa using HO2.out
    case rest =>
      obtain ⟨ho2, hB2⟩ := hcut
      obtain ⟨w2, hw2⟩ : ∃ w2, w2 = wc := ⟨_, rfl⟩
      subst hw2
      obtain ⟨A2, q2, rfl⟩ := H.own_shape ho2
      have hcap1 := (W.own_cap HO1.out)
      have hcap2 := (W.own_cap ho2)
      have hs12 := hB2.size
      have hs01 := HB1.out.size
      have hrd1 := (H.own_RdI HO1.out).below hB2
      have hB2a := (Below.refl w2.heap.size w2).alloc (Nat.le_refl _) (.cells #[.slice none 0 0] 66)
      have hw2a : W.WAt (w2.alloc (.cells #[.slice none 0 0] 66)) w2.heap.size (.slice none 0 0) [] := ⟨heap_alloc_new w2 _, World.ownsRow_nil _ _ _ _⟩
      have h3 := W.bytes_wr A1 n0 q1 z0 hw2a HL0.out (by simp; omega) hcap1.2.2.2.1 (((hrd1.more hs12).below hB2a).more (by simp)) (fun a ha _ hf => by
        have := (hcap1.2.2.2.2 a ha).2
        rcases hf with h | h
        · omega
        · simp [Value.ownBlock] at h)
      have hb1 : ∀ a, A1 = some a → w.heap.size ≤ a.block ∧ a.block < w1.heap.size := hcap1.2.2.2.2
      have hb2 : ∀ a, A2 = some a → w1.heap.size ≤ a.block ∧ a.block < w2.heap.size := hcap2.2.2.2.2
      have HO2 := Lib.hid ho2
      have HB2 := Lib.hid hB2
      have HB2A := Lib.hid hB2a
      have HA1 := Lib.hid hb1
      have HA2 := Lib.hid hb2
      have HN2' := Lib.hid hcap2.2.2.2.1
      clear ho2 hB2 hB2a hcap1 hcap2 hrd1 hw2a hb1 hb2
      go_wp2_with fail
      refine h3.mono ?_
      clear h3
      rintro r w3 ⟨rfl, v3, hw3, hs3⟩
      have h4 := W.ints_wr A2 n1 q2 z1 hw3 HL1.out (by have := HL0.out; have := W.encU_len 9 (n := n0) (Nat.lt_trans (show n0 < 1048576 by omega) (by decide)); simp; omega) HI6.out (((hs3.save.rdi2 (((H.own_RdI HO2.out).below HB2A.out).more HB2A.out.size) (Nat.le_refl _) (fun a ha _ hf => by
        have := (HA2.out a ha).2
        rcases hf with h | h
        · omega
        · simp [Value.ownBlock] at h))).more hs3.save.size) (fun a ha _ hf => by
        have h1 := (HA2.out a ha).2
        rcases hf with h | h
        · omega
        · rcases hs3.place _ h with h2 | h2
          · simp [Value.ownBlock] at h2
          · simp at h2; omega)
      have HS3 := Lib.hid hs3
      clear hw3 hs3
      go_wp2_with fail
      refine h4.mono ?_
      clear h4
      rintro r w4 ⟨rfl, v4, hw4, hs4⟩
      have hB1w := HB1.out.size
      have hB12 := HB2.out
      have hbw2 : w.heap.size ≤ w2.heap.size := by omega
      have hst4 := ((HS3.out.trans hs4).pre HB2A.out)
      have hB24 : Below w2.heap.size w2 w4 := hst4.below (Nat.le_refl _) (Nat.le_refl _) (fun k hk => by simp [Value.ownBlock] at hk)
      have hv4 : ∀ k, v4.ownBlock = some k → w2.heap.size ≤ k := fun k hk => by
        rcases hst4.place k hk with h | h
        · simp [Value.ownBlock] at h
        · exact h
      have hw4' : W.WAt w4 w2.heap.size v4 (W.encU n0 ++ z0 ++ (W.encU n1 ++ W.encL z1)) := hw4
      clear hw4 hs4 HS3
      obtain ⟨E, hE⟩ : ∃ E, W.encU n0 ++ z0 ++ (W.encU n1 ++ W.encL z1) = E := ⟨_, rfl⟩
      rw [hE] at hw4'
      have hEl : E.length ≤ 12582912 := by
        have e1 := W.encU_len 9 (n := n0) (Nat.lt_trans (show n0 < 1048576 by omega) (by decide))
        have e2 := W.encU_len 9 (n := n1) (Nat.lt_trans (show n1 < 1048576 by omega) (by decide))
        have e3 := W.encL_len z1 HI6.out
        have e4 := HL0.out
        have e5 := HL1.out
        rw [← hE]
        simp only [List.length_append]
        omega
      have hEp : 0 < E.length := by rw [← hE]; have := W.encU_pos n0; simp only [List.length_append]; omega
      have hEb : H.Byt E := by
        rw [← hE]
        intro x hx
        rcases List.mem_append.1 hx with hx | hx
        · rcases List.mem_append.1 hx with hx | hx
          · exact W.encU_byt _ x hx
          · exact HB8.out x hx
        · rcases List.mem_append.1 hx with hx | hx
          · exact W.encU_byt _ x hx
          · exact W.encL_byt _ x hx
      have HE := Lib.hid hE
      have HEB := Lib.hid hEb
      have h5 := W.done_wr hw4' (by omega)
      have HW4 := Lib.hid hw4'
      have HB24 := Lib.hid hB24
      have HV4 := Lib.hid hv4
      clear hw4' hB24 hst4 hv4 hE hEb hB12
      go_wp2_with fail
      refine h5.mono ?_
      clear h5
      rintro r w5 ⟨v5, rfl, ho5, hB5⟩
      obtain ⟨g5, q5, rfl, hg5, hg5'⟩ := H.own_form ho5 hEp
      have hB6 := (Below.refl w5.heap.size w5).alloc (Nat.le_refl _) (.cells #[] 5)
      have hown6 : (w5.alloc (.cells #[] 5)).ownsRow w5.heap.size 5 1 (.slice (some ⟨w5.heap.size, 0, none⟩) 0 0) 0 [] := World.ownsRow_made w5 #[] 0 (Nat.le_refl _) (by decide) (by simp)
      have hnews6 := ((H.own_RdI ho5).below hB6).news E.length
      rw [List.take_of_length_le (Nat.le_refl _)] at hnews6
      have HNW6 := Lib.hid hnews6
      have HO6 := Lib.hid hown6
      have HB6 := Lib.hid hB6
      have HO5 := Lib.hid ho5
      have HB5 := Lib.hid hB5
      clear hnews6 hown6 hB6 ho5 hB5
      go_wp2_with (at_builtin; refine wpList_append_own _ rfl _ _ 24 rfl w5.heap.size 5 i0 (.int .u8 0) 1 1 Try.underlying24 hi hz0 hz1 hz2 rfl (by decide) _ _ _ rfl HO6.out ⟨g5, 0, none⟩ E.length q5 (E.map (Value.int .u8)) rfl (by simp) HNW6.out (H.one_cells _ _) (by unfold maxLen; omega) (by omega) (by simp) ?_; intro v6 w6 hown6 hgrow _; have HO6' := Lib.hid hown6; have HB6' := Lib.hid (HB6.out.trans (W.own_below0 (by simp) HO6.out hgrow)); clear hown6 hgrow)
      have ho6 : w6.ownsRow w5.heap.size 5 1 v6 E.length (E.map (Value.int .u8)) := by simpa using HO6'.out
      obtain ⟨A6, q6, rfl⟩ := H.own_shape ho6
      have hcap6 := W.own_cap ho6
      have h7 := W.new_any (some ⟨g5, 0, none⟩) E.length q5 E w6 rfl (by omega) (fun h => by cases h) HEB.out (((H.own_RdI HO5.out).below HB6'.out).more HB6'.out.size)
      have HO6'' := Lib.hid ho6
      have HA6 := Lib.hid hcap6.2.2.2.2
      clear ho6 hcap6 HO6' HNW6 HO6 HB6
      go_wp2_with fail
      refine h7.mono ?_
      clear h7
      rintro r w7 ⟨rb, A7, c7, rfl, hr7, hrb, hA7, hB7⟩
      have HR7 := Lib.hid hr7
      have HA7 := Lib.hid hA7
      have HB7 := Lib.hid hB7
      clear hr7 hA7 hB7
      have hz24 := HB24.out.size
      have hz45 := HB5.out.size
      have hz56 := HB6'.out.size
      have hz67 := HB7.out.size
      -- mine, list and first in w7
      have hm1 : z0.length = n0 ∧ (∀ z ∈ z0, 0 ≤ z ∧ z < 256) ∧ w7.ownsRow 0 5 1 (.slice A1 n0 q1) n0 (z0.map (Value.int .u8)) := ⟨HL0.out, HB8.out, ((H.own_kept_below (H.own_kept_below (H.own_kept_below (H.own_kept_below (H.own_kept_below HO1.out (HB2.out)) HB24.out) HB5.out) HB6'.out) HB7.out).low (Nat.zero_le _))⟩
      have hm2 : z1.length = n1 ∧ (∀ z ∈ z1, -9223372036854775808 ≤ z ∧ z ≤ 9223372036854775807) ∧ w7.ownsRow 0 3 1 (.slice A2 n1 q2) n1 (z1.map (Value.int .i64)) := ⟨HL1.out, HI6.out, ((H.own_kept_below (H.own_kept_below (H.own_kept_below (H.own_kept_below HO2.out HB24.out) HB5.out) HB6'.out) HB7.out).low (Nat.zero_le _))⟩
      have hm5 : E.length = E.length ∧ (∀ z ∈ E, 0 ≤ z ∧ z < 256) ∧ w7.ownsRow 0 5 1 (.slice (some ⟨g5, 0, none⟩) E.length q5) E.length (E.map (Value.int .u8)) := ⟨rfl, HEB.out, ((H.own_kept_below (H.own_kept_below HO5.out HB6'.out) HB7.out).low (Nat.zero_le _))⟩
      have HM1 := Lib.hid hm1
      have HM2 := Lib.hid hm2
      have HM5 := Lib.hid hm5
      clear hm1 hm2 hm5
      go_wp2_with fail
      go_loopw [11] (fun i wr => ∃ (k : Nat) (zs : List Int), k ≤ n0 ∧ i = .int .i64 k ∧ zs.length = n0 ∧ (∀ z ∈ zs, 0 ≤ z ∧ z < 256) ∧ wr.ownsRow 0 5 1 (.slice A1 n0 q1) n0 (zs.map (Value.int .u8)) ∧ W.Save (fun j => (Value.slice A1 n0 q1).ownBlock = some j) w7 wr) (fun i _ => n0 - (intOf i).toNat)
      case atStart => exact ⟨0, _, Nat.zero_le _, rfl, HM1.out.1, HM1.out.2.1, HM1.out.2.2, W.Save.refl _ _⟩
      case round =>
        obtain ⟨k, zs, hk, rfl, hzl, hzp, ho, hS⟩ := hrel
        have HS := Lib.hid hS
        have HZL := Lib.hid hzl
        have HZP := Lib.hid hzp
        clear hS hzl hzp
        by_cases hlt : k < n0
        · obtain ⟨g, cap, hv, _, _⟩ := H.own_form ho (by omega)
          injection hv with hA _ hq
          subst hq
          cases hA
          have gz : zs[k]? = some (zs[k]?.getD 0) := by rw [List.getElem?_eq_getElem (by rw [HZL.out]; exact hlt)]; rfl
          have hc := ho.cellAt k (by omega)
          rw [List.getElem?_map, gz] at hc
          have hf := ho.frozenAt k
          have hzz := HZP.out (zs[k]?.getD 0) (List.mem_of_getElem? gz)
          generalize zs[k]?.getD 0 = z at hc hzz
          have hc' : wr.cell? ⟨g, k, none⟩ = some (.int .u8 z) := hc
          have st := fun u : Value => ho.stored k u
          have HST := Lib.hid st
          have hk0 : (0 : Int) ≤ (k : Int) := by omega
          have hk1 : (k : Int) < (n0 : Int) := by omega
          have hcA : wr.cell? ((⟨g, 0, none⟩ : Addr).add k) = some (.int .u8 z) := by rw [show (⟨g, 0, none⟩ : Addr).add k = ⟨g, k, none⟩ from by unfold Addr.add; split <;> simp_all]; exact hc'
          have hfA : wr.frozen? ((⟨g, 0, none⟩ : Addr).add k) = false := by rw [show (⟨g, 0, none⟩ : Addr).add k = ⟨g, k, none⟩ from by unfold Addr.add; split <;> simp_all]; exact hf
          clear hc gz st ho
          go_wp2_with fail
          refine ⟨⟨k + 1, zs.set k ((z + 1) % 256), by omega, by go_num, by rw [List.length_set]; exact HZL.out, fun x hx => ?_, by rw [List.map_set]; exact (HST.out _).1, HS.out.setCell (p := ⟨g, k, none⟩) rfl _⟩, by simp [intOf]; omega⟩
          rcases List.mem_or_eq_of_mem_set hx with h | rfl
          · exact HZP.out x h
          · omega
        · have hS := HS.out
          obtain ⟨w8, hww⟩ : ∃ W1, W1 = wr := ⟨_, rfl⟩
          subst hww
          have HS_w8 := Lib.hid hS
          have hz_w8 := hS.size
          clear hS HS ho HZL HZP hk
          have hm2 := HM2.out
          have hm2' : z1.length = n1 ∧ (∀ z ∈ z1, -9223372036854775808 ≤ z ∧ z ≤ 9223372036854775807) ∧ w8.ownsRow 0 3 1 (.slice A2 n1 q2) n1 (z1.map (Value.int .i64)) := ⟨hm2.1, hm2.2.1, own_apart hm2.2.2 HS_w8.out (own_disj (fun a ha => (HA2.out a ha).1) (fun a ha => (HA1.out a ha).2))⟩
          have HM2' := Lib.hid hm2'
          have hm5 := HM5.out
          have hm5' : w8.ownsRow 0 5 1 (.slice (some ⟨g5, 0, none⟩) E.length q5) E.length (E.map (Value.int .u8)) := own_apart hm5.2.2 HS_w8.out (own_disj (B := w4.heap.size) (fun a ha => by cases ha; exact hg5) (fun a ha => by have := (HA1.out a ha).2; omega))
          have HM5' := Lib.hid hm5'
          clear hm2 hm2' hm5 hm5'
          go_wp2_with fail

          go_loopw [12] (fun i wr => ∃ (k : Nat) (zs : List Int), k ≤ n1 ∧ i = .int .i64 k ∧ zs.length = n1 ∧ (∀ z ∈ zs, -9223372036854775808 ≤ z ∧ z ≤ 9223372036854775807) ∧ wr.ownsRow 0 3 1 (.slice A2 n1 q2) n1 (zs.map (Value.int .i64)) ∧ W.Save (fun j => (Value.slice A2 n1 q2).ownBlock = some j) w8 wr) (fun i _ => n1 - (intOf i).toNat)
          case atStart => exact ⟨0, _, Nat.zero_le _, rfl, HM2'.out.1, HM2'.out.2.1, HM2'.out.2.2, W.Save.refl _ _⟩
          case round =>
            obtain ⟨k, zs, hk, rfl, hzl, hzp, ho, hS⟩ := hrel
            have HS := Lib.hid hS
            have HZL := Lib.hid hzl
            have HZP := Lib.hid hzp
            clear hS hzl hzp
            by_cases hlt : k < n1
            · obtain ⟨g, cap, hv, _, _⟩ := H.own_form ho (by omega)
              injection hv with hA _ hq
              subst hq
              cases hA
              have gz : zs[k]? = some (zs[k]?.getD 0) := by rw [List.getElem?_eq_getElem (by rw [HZL.out]; exact hlt)]; rfl
              have hc := ho.cellAt k (by omega)
              rw [List.getElem?_map, gz] at hc
              have hf := ho.frozenAt k
              have hzz := HZP.out (zs[k]?.getD 0) (List.mem_of_getElem? gz)
              generalize zs[k]?.getD 0 = z at hc hzz
              have hc' : wr.cell? ⟨g, k, none⟩ = some (.int .i64 z) := hc
              have st := fun u : Value => ho.stored k u
              have HST := Lib.hid st
              have hk0 : (0 : Int) ≤ (k : Int) := by omega
              have hk1 : (k : Int) < (n1 : Int) := by omega
              have hcA : wr.cell? ((⟨g, 0, none⟩ : Addr).add k) = some (.int .i64 z) := by rw [show (⟨g, 0, none⟩ : Addr).add k = ⟨g, k, none⟩ from by unfold Addr.add; split <;> simp_all]; exact hc'
              have hfA : wr.frozen? ((⟨g, 0, none⟩ : Addr).add k) = false := by rw [show (⟨g, 0, none⟩ : Addr).add k = ⟨g, k, none⟩ from by unfold Addr.add; split <;> simp_all]; exact hf
              clear hc gz st ho
              go_wp2_with fail
              refine ⟨⟨k + 1, zs.set k 1, by omega, by go_num, by rw [List.length_set]; exact HZL.out, fun x hx => ?_, by rw [List.map_set]; exact (HST.out _).1, HS.out.setCell (p := ⟨g, k, none⟩) rfl _⟩, by simp [intOf]; omega⟩
              rcases List.mem_or_eq_of_mem_set hx with h | rfl
              · exact HZP.out x h
              · omega
            · have hS := HS.out
              obtain ⟨w9, hww⟩ : ∃ W1, W1 = wr := ⟨_, rfl⟩
              subst hww
              have HS_w9 := Lib.hid hS
              have hz_w9 := hS.size
              clear hS HS ho HZL HZP hk
              have hm5' : w9.ownsRow 0 5 1 (.slice (some ⟨g5, 0, none⟩) E.length q5) E.length (E.map (Value.int .u8)) := own_apart HM5'.out HS_w9.out (own_disj (B := w4.heap.size) (fun a ha => by cases ha; exact hg5) (fun a ha => by have := (HA2.out a ha).2; omega))
              have HM5'' := Lib.hid hm5'
              clear hm5'
              go_wp2_with fail
              go_loopw [13] (fun i wr => ∃ (k : Nat) (zs : List Int), k ≤ E.length ∧ i = .int .i64 k ∧ zs.length = E.length ∧ (∀ z ∈ zs, 0 ≤ z ∧ z < 256) ∧ wr.ownsRow 0 5 1 (.slice (some ⟨g5, 0, none⟩) E.length q5) E.length (zs.map (Value.int .u8)) ∧ W.Save (fun j => (Value.slice (some ⟨g5, 0, none⟩) E.length q5).ownBlock = some j) w9 wr) (fun i _ => E.length - (intOf i).toNat)
              case atStart => exact ⟨0, E, Nat.zero_le _, rfl, rfl, HEB.out, HM5''.out, W.Save.refl _ _⟩
              case round =>
                obtain ⟨k, zs, hk, rfl, hzl, hzp, ho, hS⟩ := hrel
                have HS := Lib.hid hS
                have HZL := Lib.hid hzl
                have HZP := Lib.hid hzp
                clear hS hzl hzp
                by_cases hlt : k < E.length
                · obtain ⟨g, cap, hv, _, _⟩ := H.own_form ho (by omega)
                  injection hv with hA _ hq
                  subst hq
                  cases hA
                  have gz : zs[k]? = some (zs[k]?.getD 0) := by rw [List.getElem?_eq_getElem (by rw [HZL.out]; exact hlt)]; rfl
                  have hc := ho.cellAt k (by omega)
                  rw [List.getElem?_map, gz] at hc
                  have hf := ho.frozenAt k
                  have hzz := HZP.out (zs[k]?.getD 0) (List.mem_of_getElem? gz)
                  generalize zs[k]?.getD 0 = z at hc hzz
                  have hc' : wr.cell? ⟨g5, k, none⟩ = some (.int .u8 z) := hc
                  have st := fun u : Value => ho.stored k u
                  have HST := Lib.hid st
                  have hk0 : (0 : Int) ≤ (k : Int) := by omega
                  have hk1 : (k : Int) < (E.length : Int) := by omega
                  have hcA : wr.cell? ((⟨g5, 0, none⟩ : Addr).add k) = some (.int .u8 z) := by rw [show (⟨g5, 0, none⟩ : Addr).add k = ⟨g5, k, none⟩ from by unfold Addr.add; split <;> simp_all]; exact hc'
                  have hfA : wr.frozen? ((⟨g5, 0, none⟩ : Addr).add k) = false := by rw [show (⟨g5, 0, none⟩ : Addr).add k = ⟨g5, k, none⟩ from by unfold Addr.add; split <;> simp_all]; exact hf
                  clear hc gz st ho
                  go_wp2_with fail
                  refine ⟨⟨k + 1, zs.set k ((z + 1) % 256), by omega, by go_num, by rw [List.length_set]; exact HZL.out, fun x hx => ?_, by rw [List.map_set]; exact (HST.out _).1, HS.out.setCell (p := ⟨g5, k, none⟩) rfl _⟩, by simp [intOf]; omega⟩
                  rcases List.mem_or_eq_of_mem_set hx with h | rfl
                  · exact HZP.out x h
                  · omega
                · have hS := HS.out
                  obtain ⟨w10, hww⟩ : ∃ W1, W1 = wr := ⟨_, rfl⟩
                  subst hww
                  have HS_w10 := Lib.hid hS
                  have hz_w10 := hS.size
                  clear hS HS ho HZL HZP hk
                  have hG : W.Save (fun j => w.heap.size ≤ j ∧ (j < w2.heap.size ∨ (w4.heap.size ≤ j ∧ j < w5.heap.size))) w7 w10 := ((HS_w8.out.more fun j hj => by
                    obtain ⟨a, e, rfl⟩ := own_blk hj
                    have := HA1.out a e
                    omega).trans (HS_w9.out.more fun j hj => by
                    obtain ⟨a, e, rfl⟩ := own_blk hj
                    have := HA2.out a e
                    omega)).trans (HS_w10.out.more fun j hj => by
                    obtain ⟨a, e, rfl⟩ := own_blk hj
                    cases e
                    show w.heap.size ≤ g5 ∧ (g5 < w2.heap.size ∨ w4.heap.size ≤ g5 ∧ g5 < w5.heap.size)
                    omega)
                  have hw24 : w2.heap.size < w4.heap.size := W.blk_lt HW4.out.blk
                  have hw7 : W.WAt w7 w2.heap.size v4 E := ((HW4.out.same HB5.out.size (fun k hk => HB5.out.block k hk)).same HB6'.out.size (fun k hk => HB6'.out.block k hk)).same HB7.out.size (fun k hk => HB7.out.block k hk)
                  have hwA : W.WAt w10 w2.heap.size v4 E := wat_aside hw7 hG (by omega) (fun j hj => by
                    have h1 := HV4.out j hj
                    have h2 := own_lt HW4.out.own j hj
                    omega)
                  have hrA : W.RAt w10 rb A7 E.length c7 E 0 0 := HR7.out.keep hG.size (hG.block rb (W.blk_lt HR7.out.blk) (by omega)) (fun a ha => hG.block a.block (HR7.out.inb a ha) (by have := HA7.out a ha; omega))
                  have hbA : Below w.heap.size w w10 := (((((HB1.out.trans (HB2.out.mono hB1w)).trans (HB24.out.mono hbw2)).trans (HB5.out.mono (by omega))).trans (HB6'.out.mono (by omega))).trans (HB7.out.mono (by omega))).trans (hG.below (by omega) (fun k hk => hk.1))
                  have hwa : H.RdI w10 w10.heap.size .u8 A6 E := H.own_RdI (own_aside (H.own_kept_below HO6''.out HB7.out) hG (fun j hj => by
                    obtain ⟨a, e, rfl⟩ := own_blk hj
                    have := HA6.out a e
                    omega))
                  have hq : W.rB (E, 0) (n0 : Int) = ((W.encU n1 ++ W.encL z1, 0), z0) := by
                    have h := W.rV_enc (.b z0) (show z0.length < 9223372036854775808 by rw [HL0.out]; omega) (W.encU n1 ++ W.encL z1)
                    simp only [W.rV, W.enc, W.size, Prod.mk.injEq, W.Val.b.injEq] at h
                    rw [HL0.out, HE.out] at h
                    exact Prod.ext h.1 h.2
                  have hq2 : W.rL (W.encU n1 ++ W.encL z1, 0) (n1 : Int) = (([], 0), z1) := by
                    have h := W.rV_enc (.l z1) (show z1.length < 9223372036854775808 ∧ _ from ⟨by rw [HL1.out]; omega, HI6.out⟩) []
                    simp only [W.rV, W.enc, W.size, Prod.mk.injEq, W.Val.l.injEq, List.append_nil] at h
                    rw [HL1.out] at h
                    exact Prod.ext h.1 h.2
                  have hby := W.bytes_rd (s := (E, 0)) (n0 : Int) (by omega) hrA ⟨rfl, fun _ => rfl⟩
                  unfold W.RdPostV at hby
                  rw [hq] at hby
                  have HWA := Lib.hid hwA
                  have HBA := Lib.hid hbA
                  have HWD := Lib.hid hwa
                  have HQ2 := Lib.hid hq2
                  have hrb2 : w10.heap.size ≤ w10.heap.size ∧ w6.heap.size ≤ rb ∧ w2.heap.size < w4.heap.size := ⟨Nat.le_refl _, hrb, hw24⟩
                  clear hG hw7 hwA hrA hbA hwa hq hq2 HS_w8 HS_w9 HS_w10
                  go_wp2_with fail
                  refine hby.mono ?_
                  clear hby
                  rintro r w11 ⟨v11, rfl, hog, k11, e11, hr11, hst11, hv11⟩
                  obtain rfl : e11 = 0 := hst11.1.symm
                  have hst := hst11.2 rfl
                  have hog : w11.ownsRow w10.heap.size 5 1 v11 n0 (z0.map (Value.int .u8)) := HL0.out ▸ hog
                  obtain ⟨Ag, qg, rfl⟩ := H.own_shape hog
                  have hw11 : W.WAt w11 w2.heap.size v4 E := wat_aside HWA.out hv11 (by show ¬ (w2.heap.size = rb); omega) (fun j hj => by
                    have h2 := own_lt HW4.out.own j hj
                    show ¬ (j = rb)
                    omega)
                  have hdone := W.done_wr hw11 (by omega)
                  have HOG := Lib.hid hog
                  have HR11 := Lib.hid hr11
                  have HV11 := Lib.hid hv11
                  have HST := Lib.hid hst
                  clear hog hr11 hv11 hst hst11 hw11
                  go_wp2_with fail
                  refine hdone.mono ?_
                  clear hdone
                  rintro r w12 ⟨v12, rfl, hod, hbd⟩
                  obtain ⟨Ad, qd, rfl⟩ := H.own_shape hod
                  have hwd12 : H.RdI w12 w12.heap.size .u8 A6 E := (((HV11.out.rdi2 HWD.out (Nat.le_refl _) (fun a ha _ e => by have := HA6.out a ha; omega)).more HV11.out.size).below hbd).more hbd.size
                  have hsb := W.sameB_any Ad A6 E.length E.length qd q6 E E w12 rfl rfl (by omega) (H.own_RdI hod) hwd12
                  rw [decide_eq_true rfl] at hsb
                  have HBD := Lib.hid hbd
                  clear hod hbd hwd12
                  go_wp2_with fail
                  refine hsb.mono ?_
                  clear hsb
                  rintro r w13 ⟨rfl, hb13⟩
                  have hz12 := HBD.out.size
                  have hz13 := hb13.size
                  have hz11 := HV11.out.size
                  have hB11 : Below w.heap.size w w11 := HBA.out.trans (HV11.out.below HBA.out.size (fun k hk => by have : k = rb := hk; omega))
                  have hB13 : Below w11.heap.size w11 w13 := HBD.out.trans (hb13.mono HBD.out.size)
                  have hog13 := H.own_kept_below HOG.out hB13
                  have hsb := W.sameB_any Ag a0 n0 n0 qg c0 z0 z0 w13 HL0.out HL0.out (by omega) (H.own_RdI hog13) ((HR0.out.below (hB11.trans (hB13.mono (by have := hB11.size; omega)))).more (by have := hB11.size; omega))
                  rw [decide_eq_true rfl] at hsb
                  have HB11 := Lib.hid hB11
                  have HB13 := Lib.hid hB13
                  clear hog13 hb13 hB11 hB13
                  go_wp2_with fail
                  refine hsb.mono ?_
                  clear hsb
                  rintro r w14 ⟨rfl, hb14⟩
                  have hz14 := hb14.size
                  have hB14 : Below w11.heap.size w11 w14 := HB13.out.trans (hb14.mono (by omega))
                  have hm9 : z0.length = n0 ∧ (∀ z ∈ z0, 0 ≤ z ∧ z < 256) ∧ w14.ownsRow 0 5 1 (.slice Ag n0 qg) n0 (z0.map (Value.int .u8)) := ⟨HL0.out, HB8.out, (H.own_kept_below HOG.out hB14).low (Nat.zero_le _)⟩
                  have HM9 := Lib.hid hm9
                  have HB14 := Lib.hid hB14
                  clear hm9 hb14 hB14 HBD HB13
                  go_wp2_with fail
                  go_loopw [16] (fun i wr => ∃ (k : Nat) (zs : List Int), k ≤ n0 ∧ i = .int .i64 k ∧ zs.length = n0 ∧ (∀ z ∈ zs, 0 ≤ z ∧ z < 256) ∧ wr.ownsRow 0 5 1 (.slice Ag n0 qg) n0 (zs.map (Value.int .u8)) ∧ W.Save (fun j => (Value.slice Ag n0 qg).ownBlock = some j) w14 wr) (fun i _ => n0 - (intOf i).toNat)
                  case atStart => exact ⟨0, _, Nat.zero_le _, rfl, HM9.out.1, HM9.out.2.1, HM9.out.2.2, W.Save.refl _ _⟩
                  case round =>
                    obtain ⟨k, zs, hk, rfl, hzl, hzp, ho, hS⟩ := hrel
                    have HS := Lib.hid hS
                    have HZL := Lib.hid hzl
                    have HZP := Lib.hid hzp
                    clear hS hzl hzp
                    by_cases hlt : k < n0
                    · obtain ⟨g, cap, hv, _, _⟩ := H.own_form ho (by omega)
                      injection hv with hA _ hq
                      subst hq
                      cases hA
                      have gz : zs[k]? = some (zs[k]?.getD 0) := by rw [List.getElem?_eq_getElem (by rw [HZL.out]; exact hlt)]; rfl
                      have hc := ho.cellAt k (by omega)
                      rw [List.getElem?_map, gz] at hc
                      have hf := ho.frozenAt k
                      have hzz := HZP.out (zs[k]?.getD 0) (List.mem_of_getElem? gz)
                      generalize zs[k]?.getD 0 = z at hc hzz
                      have hc' : wr.cell? ⟨g, k, none⟩ = some (.int .u8 z) := hc
                      have st := fun u : Value => ho.stored k u
                      have HST := Lib.hid st
                      have hk0 : (0 : Int) ≤ (k : Int) := by omega
                      have hk1 : (k : Int) < (n0 : Int) := by omega
                      have hcA : wr.cell? ((⟨g, 0, none⟩ : Addr).add k) = some (.int .u8 z) := by rw [show (⟨g, 0, none⟩ : Addr).add k = ⟨g, k, none⟩ from by unfold Addr.add; split <;> simp_all]; exact hc'
                      have hfA : wr.frozen? ((⟨g, 0, none⟩ : Addr).add k) = false := by rw [show (⟨g, 0, none⟩ : Addr).add k = ⟨g, k, none⟩ from by unfold Addr.add; split <;> simp_all]; exact hf
                      clear hc gz st ho
                      go_wp2_with fail
                      refine ⟨⟨k + 1, zs.set k ((z + 1) % 256), by omega, by go_num, by rw [List.length_set]; exact HZL.out, fun x hx => ?_, by rw [List.map_set]; exact (HST.out _).1, HS.out.setCell (p := ⟨g, k, none⟩) rfl _⟩, by simp [intOf]; omega⟩
                      rcases List.mem_or_eq_of_mem_set hx with h | rfl
                      · exact HZP.out x h
                      · omega
                    · have hS := HS.out
                      obtain ⟨w15, hww⟩ : ∃ W1, W1 = wr := ⟨_, rfl⟩
                      subst hww
                      have hz15 := hS.size
                      have hogc := (W.own_cap HOG.out).2.2.2.2
                      have hr14 := HR11.out.same HB14.out
                      have hsep : ∀ j, (Value.slice Ag n0 qg).ownBlock = some j → w10.heap.size ≤ j := fun j hj => by
                        obtain ⟨a, e, rfl⟩ := own_blk hj
                        exact (hogc a e).1
                      have hrb10 : rb < w10.heap.size := W.blk_lt HR7.out.blk |> fun h => by omega
                      have hr15 : W.RAt w15 rb A7 E.length c7 E k11 0 := hr14.keep hS.size (hS.block rb (W.blk_lt hr14.blk) (fun h => by have := hsep rb h; omega)) (fun a ha => hS.block a.block (hr14.inb a ha) (fun h => by have h1 := hsep _ h; have := HR7.out.inb a ha; omega))
                      have hB15 : Below w.heap.size w w15 := (HB11.out.trans (HB14.out.mono HB11.out.size)).trans (hS.below (by have := HB11.out.size; omega) (fun k hk => by have := hsep k hk; omega))
                      have hin := W.ints_rd (s := (W.encU n1 ++ W.encL z1, 0)) (n1 : Int) (by omega) (fun _ => by have h := congrArg List.length HE.out; simp only [List.length_append] at h ⊢; omega) hr15 ⟨rfl, fun _ => HST.out⟩
                      unfold W.RdPostV at hin
                      rw [HQ2.out] at hin
                      have HB15 := Lib.hid hB15
                      clear hS HS ho HZL HZP hk hr14 hsep hr15 hB15 hogc
                      go_wp2_with fail
                      refine hin.mono ?_
                      clear hin
                      rintro r w16 ⟨v16, rfl, hoi, k16, e16, hr16, hst16, hv16⟩
                      obtain rfl : e16 = 0 := hst16.1.symm
                      have hoi : w16.ownsRow w15.heap.size 3 1 v16 n1 (z1.map (Value.int .i64)) := HL1.out ▸ hoi
                      obtain ⟨Ai, qi, rfl⟩ := H.own_shape hoi
                      have hB16 : Below w.heap.size w w16 := HB15.out.trans (hv16.below HB15.out.size (fun k hk => by have : k = rb := hk; omega))
                      have hsi := W.sameI_any Ai a1 n1 n1 qi c1 z1 z1 w16 HL1.out HL1.out (by omega) (H.own_RdI hoi) ((HR1.out.below hB16).more hB16.size)
                      rw [decide_eq_true rfl] at hsi
                      have hst := hst16.2 rfl
                      have HR16 := Lib.hid hr16
                      have HST16 := Lib.hid hst
                      have HB16 := Lib.hid hB16
                      clear hoi hr16 hst16 hv16 hB16 hst
                      go_wp2_with fail
                      refine hsi.mono ?_
                      clear hsi
                      rintro r w17 ⟨rfl, hb17⟩
                      have hen := W.end_rd (s := ([], 0)) (HR16.out.same hb17) ⟨rfl, fun _ => HST16.out⟩
                      rw [show W.endOf (([], 0) : W.St) = 0 from rfl] at hen
                      have HB17 := Lib.hid (HB16.out.trans (hb17.mono HB16.out.size))
                      clear hb17
                      go_wp2_with fail
                      refine hen.mono ?_
                      clear hen
                      rintro r w18 ⟨rfl, m18, rfl⟩
                      have hlv := W.lives_any (Go.World.drewN w17 m18)
                      go_wp2_with fail
                      refine hlv.mono ?_
                      clear hlv
                      rintro r w19 ⟨rfl, hb19⟩
                      have HB19 := Lib.hid ((below_drewN HB17.out m18).trans (hb19.mono HB17.out.size))
                      clear hb19
                      go_wp2_with fail
                      go_ret
                      exact ⟨rfl, HB19.out⟩

set_option maxRecDepth 100000 in
theorem lifted (os : Os) (started : os.Started) (H0 : Type) (enc : TypeId × Value → H0) (F0 : Stop.Interp) :
    ReturnsInHanded {} Try.checked os 12 .any ((Rows.OpenSpec.upto Rows.wireOwnsSpec).pre6 enc Try.prog Try.f12 Rows.wireOwnsUptoRow.domain false) (((Rows.OpenSpec.upto Rows.wireOwnsSpec).at F0).post enc Try.prog Try.f12 false true false false) := by
  refine returnsInHanded_of_cond_sized (C := Try.checked) (s := (Rows.OpenSpec.upto Rows.wireOwnsSpec)) (k := Rows.uptoSmall) rfl W.own started (by kernel_rfl) Try.func12
    (OpenSpec.witness (enc := enc) (C := Try.checked) (s := (Rows.OpenSpec.upto Rows.wireOwnsSpec)) (k := Rows.uptoSmall) rfl false ⟨#[], #[.slice none 0 0, .slice none 0 0], []⟩ 8 (by kernel_rfl) (by kernel_rfl) (by kernel_rfl)
      (x := ([.nil, .nil], [], [])) (by kernel_rfl) (by kernel_rfl) (by kernel_rfl)) ?_
  intro W base args ds gs before hval0 hW hcnd hk0 hsz0 _
  have hval : ∀ (j : Nat) t v, Try.f12.params[j]? = some t → args[j]? = some v → Value.okWide Try.prog W .any base t v := hval0
  have hW' := hW
  obtain ⟨p, q, hA0, hV, rfl, hfz, hnd⟩ := hW
  have hA : DataW.TrodAll enc Try.prog W 0 (fun _ => true) true Try.f12.params.toList args.toList ds p := hA0
  rw [Try.params12] at hA hval
  obtain ⟨v0, vs0, d0, ds0, p0, q0, hargs, rfl, rfl, h0, r0⟩ := trodAll_cons hA
  obtain ⟨v1, vs1, d1, ds1, p1, q1, rfl, rfl, rfl, h1, r1⟩ := trodAll_cons r0
  obtain ⟨rfl, rfl, rfl⟩ := trodAll_nil r1
  obtain rfl : args = #[v0, v1] := by cases args; simp_all
  obtain ⟨rfl, rfl⟩ := trodVars_none hV
  obtain ⟨a0, n0, c0, rfl⟩ := okWide_slice Try.underlying24 (hval 0 24 v0 rfl rfl)
  have k0 := h0
  have lt0 : ∀ x ∈ p0, x.block < W.heap.size := by obtain ⟨m, hm⟩ := k0; exact DataW.trod_lt m _ _ _ hm
  obtain ⟨z0, l0, cp0, cq0, nz0, rd0, wf0, bj0⟩ := Go.Proofs.Ytdfokmhpnniphaa.W.open_isT Try.underlying24 Try.underlying5 (by kernel_rfl) h0
  obtain ⟨a1, n1, c1, rfl⟩ := okWide_slice Try.underlying44 (hval 1 44 v1 rfl rfl)
  have k1 := h1
  have lt1 : ∀ x ∈ p1, x.block < W.heap.size := by obtain ⟨m, hm⟩ := k1; exact DataW.trod_lt m _ _ _ hm
  obtain ⟨z1, l1, cp1, cq1, nz1, rd1, wf1, bj1⟩ := Go.Proofs.Ytdfokmhpnniphaa.W.open_isT Try.underlying44 Try.underlying3 (by kernel_rfl) h1
  clear hA0 hval0
  have hk := of_decide_eq_true hk0
  simp only [List.append_nil, Rows.uptoBulkAll] at hk
  have bk0 : z0.length ≤ 1048575 := by omega
  have bk1 : z1.length ≤ 1048575 := by omega
  refine (walk a0 n0 c0 z0 a1 n1 c1 z1 W l0 ⟨cp0, cq0⟩ nz0 rd0 wf0 bk0 l1 ⟨cp1, cq1⟩ nz1 rd1 wf1 bk1).mono fun e W' ⟨he, bel⟩ => ?_
  subst he
  exact ⟨_, rfl, _, _, _, [], _, [], hW', trodAll_mk1 (shut_bool Try.underlying4 _), (trodAll_cons_mk (Below.trod Go.Proofs.Ytdfokmhpnniphaa.W.laidOut (by kernel_rfl) (of_decide_eq_true (by kernel_rfl)) k0 bel lt0) (trodAll_cons_mk (Below.trod Go.Proofs.Ytdfokmhpnniphaa.W.laidOut (by kernel_rfl) (of_decide_eq_true (by kernel_rfl)) k1 bel lt1) trodAll_mk0)), rfl, bel.frame _, fun h => by cases h⟩

/-- ████ THE STATEMENT ████ -/
theorem proved : Rows.WireOwnsUptoSaid :=
  OpenClaim.holds_of_cond 12 Try.f12 rfl rfl rfl rfl rfl rfl rfl ⟨rfl, rfl, rfl, rfl, rfl⟩ rfl rfl rfl rfl rfl (by kernel_rfl) Try.func12 (by kernel_rfl)
    (of_decide_eq_true (by kernel_rfl)) (by unfold Func.isWrapper; first | (rw [if_pos (by decide +kernel)]; kernel_rfl) | (rw [if_neg (by decide +kernel)]; exact ⟨rfl, rfl⟩))
    (fun os started H0 enc _ F0 => by rw [OpenClaim.pre_of_none' rfl]; exact lifted os started H0 enc F0)
end Go.Proofs.Ytdfokmhpnniphaa.wireOwns
