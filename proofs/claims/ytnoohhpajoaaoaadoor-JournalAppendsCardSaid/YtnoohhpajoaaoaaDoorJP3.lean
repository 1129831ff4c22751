/-
  The landed package journal: split, Records.
-/
import Derived.Test.YtnoohhpajoaaoaaDoorJP2
namespace Go.Proofs.YtnoohhpajoaaoaaDoor
open Go.RowKit
namespace J
open H R M
set_option linter.unusedVariables false
set_option maxRecDepth 100000
/-- A part of a slice. -/
theorem Sl.part {w : World} {G : Nat → Prop} {A : Option Addr} {n c : Nat} {us : List Value} (h : Sl w G (.slice A n c) us) {ad : Addr} (hA : A = some ad) {lo hi c' : Nat} (h1 : lo ≤ hi) (h2 : hi ≤ us.length) (hc : hi - lo ≤ c') : Sl w G (.slice (some (ad.add lo)) (hi - lo) c') ((us.take hi).drop lo) := by
  obtain ⟨hn, hr⟩ := h.get
  refine ⟨some (ad.add lo), c', by rw [List.length_drop, List.length_take, Nat.min_eq_left h2], (fun e => by cases e), by rw [List.length_drop, List.length_take, Nat.min_eq_left h2]; exact hc, fun j u hu => ?_⟩
  rw [List.getElem?_drop, List.getElem?_take] at hu
  split at hu
  · obtain ⟨ad', e, hg, hcell, hf⟩ := hr (lo + j) u hu
    rw [hA] at e
    injection e with e
    subst e
    have e2 : (ad.add lo).add j = ad.add (lo + j) := by
      unfold Addr.add
      by_cases h0 : lo = 0
      · subst h0; simp
      · by_cases hj : j = 0
        · subst hj; simp
        · simp [h0, hj, Nat.add_assoc]
    exact ⟨_, rfl, by rw [add_block]; exact hg, by rw [e2]; exact hcell, by rw [e2]; exact hf⟩
  · cases hu
/-- An own slice of rows. -/
structure OR (w : World) (base : Nat) (v : Value) (us : List Value) (rows : List (List Nat)) : Prop where
  own : w.ownsRow base 35 1 v rows.length us
  len : us.length = rows.length
  one : ∀ u ∈ us, u.oneCell' = true
  row : ∀ (i : Nat) (u : Value) (xs : List Nat), us[i]? = some u → rows[i]? = some xs → Rd w (fun k => base ≤ k ∧ v.ownBlock ≠ some k) u xs
theorem OR.rr {w : World} {base : Nat} {G : Nat → Prop} {v : Value} {us : List Value} {rows : List (List Nat)} (h : OR w base v us rows) (hG : ∀ k, base ≤ k → G k) : RR w G v rows :=
  ⟨us, Sl.own h.own fun k hk => hG k (own_low h.own k hk), h.len, h.one, fun i u xs hu hx => Sl.mono (h.row i u xs hu hx) fun k _ hk => hG k hk.1⟩
theorem OR.snoc {wr w1 w2 : World} {base : Nat} {v v' u : Value} {us : List Value} {rows : List (List Nat)} {xs : List Nat} {o : Obj} (h : OR wr base v us rows) (hbase : base ≤ wr.heap.size) (hB : Below wr.heap.size wr w1) (hu1 : u.oneCell' = true) (hu : Rd w1 (fun k => wr.heap.size ≤ k) u xs)
    (hs : Save (fun k => v.ownBlock = some k) (w1.alloc o) w2) (hk : ∀ k, v'.ownBlock = some k → v.ownBlock = some k ∨ (w1.alloc o).heap.size ≤ k) (hown : w2.ownsRow base 35 1 v' (rows.length + 1) (us ++ [u])) : OR w2 base v' (us ++ [u]) (rows ++ [xs]) := by
  have hsz := hB.size
  have hal : (w1.alloc o).heap.size = w1.heap.size + 1 := by simp
  have hlt := own_block h.own
  have hrow : ∀ {G0 : Nat → Prop} {y : Value} {ys : List Nat}, (∀ k, k < w1.heap.size → G0 k → base ≤ k ∧ v.ownBlock ≠ some k) → Rd w1 G0 y ys → Rd w2 (fun k => base ≤ k ∧ v'.ownBlock ≠ some k) y ys := by
    intro G0 y ys hG hr
    have h1 : Rd (w1.alloc o) (fun k => k < w1.heap.size ∧ base ≤ k ∧ v.ownBlock ≠ some k) y ys := Sl.keep (Sl.mono hr fun k hk hg => ⟨hk, hG k hk hg⟩) ((Below.refl _ _).alloc (Nat.le_refl _) _)
    refine Sl.mono (Sl.save h1 hs fun k hg => hg.2.2) fun k _ hg => ⟨hg.2.1, fun e => ?_⟩
    rcases hk k e with h' | h'
    · exact hg.2.2 h'
    · omega
  refine ⟨by rw [List.length_append]; exact hown, by simp [h.len], fun x hx => ?_, fun i y ys hy hys => ?_⟩
  · rcases List.mem_append.1 hx with hx | hx
    · exact h.one x hx
    · rw [List.mem_singleton.1 hx]; exact hu1
  · rcases Nat.lt_or_ge i us.length with hi | hi
    · rw [List.getElem?_append_left hi] at hy
      rw [List.getElem?_append_left (by have := h.len; omega)] at hys
      exact hrow (fun k _ hg => hg) (Sl.keep (h.row i y ys hy hys) hB)
    · have hl := h.len
      rw [List.getElem?_append_right hi] at hy
      rw [List.getElem?_append_right (by omega)] at hys
      have h0 := (List.getElem?_eq_some_iff.1 hy).1
      simp only [List.length_cons, List.length_nil] at h0
      have e1 : i - us.length = 0 := by omega
      have e2 : i - rows.length = 0 := by omega
      rw [e1] at hy
      rw [e2] at hys
      simp only [List.getElem?_cons_zero, Option.some.injEq] at hy hys
      subst hy hys
      exact hrow (fun k _ hg => ⟨Nat.le_trans hbase hg, fun e => by have := hlt k e; omega⟩) hu
theorem nil_rd {w : World} {G : Nat → Prop} {ad : Addr} {c : Nat} {xs : List Nat} (h : xs.length = 0) : Rd w G (.slice (some ad) 0 c) xs := by
  obtain rfl := List.eq_nil_of_length_eq_zero h
  exact ⟨some ad, c, rfl, (fun e => by cases e), Nat.zero_le _, fun j u hu => by simp [w32] at hu⟩
set_option maxHeartbeats 4000000 in
theorem psplit_any {w : World} {G G2 : Nat → Prop} {v : Value} {rows : List (List Nat)} (h : Rd w G v (flatL rows)) (h64 : ∀ r ∈ rows, r.length ≤ 64) (hu : usedL rows ≤ 100000) (hG2 : ∀ k, w.heap.size ≤ k → G2 k) :
    Calls Tryd.prog 47 #[v] w fun r w' => ∃ v', r = .returned (.tuple #[v', .bool true]) ∧ RR w' G2 v' rows ∧ Below w.heap.size w w' := by
  obtain ⟨i0, hi, hz0, hz1, hz2⟩ := info_parts infoR
  have HH := Lib.hid (Sl.mono (G' := fun k => k < w.heap.size) h fun k hk _ => hk)
  have H64 := Lib.hid h64
  have HU := Lib.hid hu
  have HG := Lib.hid hG2
  have hrl := rows_le_used rows
  have hlen : rows.length ≤ 100000 := by omega
  clear h h64 hu hG2 hrl
  go_enter Tryd.func47, Tryd.ntmps47
  go_wp2_with fail
  go_loopg [0, 4] rows.length (fun g u v wr => ∃ (k : Nat) (us : List Value), k + g = rows.length ∧ Rd wr (fun k => k < w.heap.size) u (flatL (rows.drop k)) ∧ OR wr w.heap.size v us (rows.take k) ∧ Below w.heap.size w wr)
  case atStart => exact ⟨0, [], Nat.zero_add _, HH.out, ⟨World.ownsRow_nil _ _ _ _, rfl, (fun u hu => by simp at hu), fun i u xs hu => by simp at hu⟩, Below.refl _ _⟩
  case round =>
    obtain ⟨k, us, hg, hrd, hor, hB⟩ := hrel
    have HGG := Lib.hid hg
    have HRD := Lib.hid hrd
    have HOR := Lib.hid hor
    have HB := Lib.hid hB
    clear hg hor hB
    obtain ⟨A, c, rfl⟩ := Sl.shape hrd
    clear hrd
    by_cases hlt : k < rows.length
    · obtain ⟨r, hr⟩ : ∃ r, rows[k]? = some r := ⟨_, List.getElem?_eq_getElem hlt⟩
      have hdrop : flatL (rows.drop k) = r.length :: (r ++ flatL (rows.drop (k + 1))) := by
        rw [List.drop_eq_getElem_cons hlt, flatL_cons]
        have : rows[k] = r := by rw [List.getElem?_eq_getElem hlt] at hr; injection hr
        rw [this]
      have hr64 := H64.out r (List.mem_of_getElem? hr)
      have hwl : (w32 (flatL (rows.drop k))).length = 1 + r.length + (flatL (rows.drop (k + 1))).length := by rw [w32_len, hdrop]; simp; omega
      have hle : 1 + r.length + (flatL (rows.drop (k + 1))).length ≤ 100000 := by
        have h1 := flatL_len (rows.drop k)
        rw [w32_len] at hwl
        have h2 : usedL (rows.take k ++ rows.drop k) = usedL (rows.take k) + usedL (rows.drop k) := by unfold usedL; rw [List.map_append, List.sum_append]
        rw [List.take_append_drop] at h2
        have := HU.out
        omega
      have HTK : Hid ((rows.take k).length = k ∧ rows.take (k + 1) = rows.take k ++ [r]) := Lib.hid ⟨by rw [List.length_take]; omega, by rw [List.take_add_one, hr]; rfl⟩
      rw [hwl] at HRD ⊢
      have HRD2 := HRD.out
      rw [hdrop] at HRD2
      have hcap := Sl.cap HRD2
      rw [w32_len, List.length_cons, List.length_append] at hcap
      obtain ⟨ad, rfl, hc0⟩ := Rd.get HRD2 (j := 0) (x := r.length) rfl
      have hsplit : w32 (r.length :: (r ++ flatL (rows.drop (k + 1)))) = [Value.int .u32 (r.length : Nat)] ++ w32 r ++ w32 (flatL (rows.drop (k + 1))) := by simp [w32]
      have hlen3 : (w32 (r.length :: (r ++ flatL (rows.drop (k + 1))))).length = 1 + r.length + (flatL (rows.drop (k + 1))).length := by rw [← hdrop, hwl]
      have hP1 : ∀ c', r.length ≤ c' → Rd wr (fun k => k < w.heap.size) (.slice (some (ad.add 1)) r.length c') r := fun c' hc' => by
        have := Sl.part HRD2 rfl (lo := 1) (hi := 1 + r.length) (c' := c') (by omega) (by rw [hlen3]; omega) (by omega)
        rw [Nat.add_sub_cancel_left, hsplit] at this
        have e : ((([Value.int .u32 (r.length : Nat)] ++ w32 r ++ w32 (flatL (rows.drop (k + 1)))).take (1 + r.length)).drop 1) = w32 r := by
          rw [List.append_assoc, List.singleton_append, Nat.add_comm 1, List.take_succ_cons, List.drop_succ_cons, List.drop_zero, List.take_append_of_le_length (by rw [w32_len]; omega), List.take_of_length_le (by rw [w32_len]; omega)]
        rw [e] at this
        exact this
      have hP2 : ∀ c', (flatL (rows.drop (k + 1))).length ≤ c' → Rd wr (fun k => k < w.heap.size) (.slice (some (ad.add (1 + r.length))) (flatL (rows.drop (k + 1))).length c') (flatL (rows.drop (k + 1))) := fun c' hc' => by
        have := Sl.part HRD2 rfl (lo := 1 + r.length) (hi := 1 + r.length + (flatL (rows.drop (k + 1))).length) (c' := c') (by omega) (by rw [hlen3]; omega) (by omega)
        rw [Nat.add_sub_cancel_left, hsplit] at this
        rw [List.take_of_length_le (by simp [w32_len]; omega), List.drop_left' (by simp [w32_len]; omega)] at this
        exact this
      have HP1 := Lib.hid hP1
      have HP2 := Lib.hid hP2
      have HCL := Lib.hid (fun (u : Value) (hr : Rd wr (fun k => k < w.heap.size) u r) => pclone_row (G2 := fun k => wr.heap.size ≤ k) hr (by omega) (fun j hj => hj))
      clear HRD2 hwl hr hdrop hsplit hlen3 hP1 hP2 HRD
      generalize hrn : r.length = n at *
      generalize hfn : (flatL (rows.drop (k + 1))).length = f at *
      have HRN := Lib.hid (And.intro hrn hfn)
      clear hrn hfn
      have hc0' : wr.cell? ad = some (.int .u32 (n : Int)) := hc0
      have hp0 : (0 : Int) < 1 + (n : Int) + (f : Int) := by omega
      have h64n : ¬ (64 : Int) < (n : Int) := by omega
      have hnl : ¬ 1 + (n : Int) + (f : Int) ≤ (n : Int) := by omega
      have hw1 : IntKind.u32.wrap (1 + (n : Int)) = 1 + (n : Int) := by rw [IntKind.wrap_u32]; omega
      have hcc : 1 + (n : Int) ≤ (c : Int) := by omega
      have hcn : ¬ (c : Int) < 1 + (n : Int) := by omega
      clear hc0
      have h1c : (1 : Int) ≤ (c : Int) := by omega
      have h11 : (1 : Int) ≤ 1 + (n : Int) := by omega
      have HFIN := Lib.hid (fun (v1 v2 V2 : Value) (w1 w2 : World) (hB1 : Below wr.heap.size wr w1) (hrd1 : Rd w1 (fun k => wr.heap.size ≤ k) v1 r) (hv1 : v1.oneCell' = true) (ho2 : w2.ownsRow w.heap.size 35 1 v2 (k + 1) (us ++ [v1])) (hs2 : Save (fun k => u4.ownBlock = some k) (w1.alloc (.cells #[v1] 35)) w2) (hk2 : ∀ k, v2.ownBlock = some k → u4.ownBlock = some k ∨ (w1.alloc (.cells #[v1] 35)).heap.size ≤ k) (hV : Rd wr (fun k => k < w.heap.size) V2 (flatL (rows.drop (k + 1)))) =>
        show ∃ (k' : Nat) (us : List Value), k' + (gk - 1) = rows.length ∧ Rd w2 (fun k => k < w.heap.size) V2 (flatL (rows.drop k')) ∧ OR w2 w.heap.size v2 us (rows.take k') ∧ Below w.heap.size w w2 from by
          have hB2 : Below w.heap.size wr w2 := ((hB1.mono HB.out.size).alloc (Nat.le_trans HB.out.size hB1.size) _).trans (hs2.below (by simp; exact Nat.le_trans HB.out.size (Nat.le_trans hB1.size (Nat.le_succ _))) fun j hj => own_low HOR.out.own j hj)
          refine ⟨k + 1, us ++ [v1], by have := HGG.out; omega, Sl.as hV fun j hj hg => hB2.block j hg, ?_, HB.out.trans hB2⟩
          rw [HTK.out.2]
          exact HOR.out.snoc HB.out.size hB1 hv1 hrd1 hs2 hk2 (by rw [HTK.out.1]; exact ho2))
      have HCA : Hid (1 + n + f ≤ c) := Lib.hid (by omega)
      by_cases hc1 : c = 1
      · obtain rfl : n = 0 := by omega
        obtain rfl : f = 0 := by omega
        subst hc1
        go_wp2_with fail
        refine (HCL.out _ (nil_rd (ad := ad) (c := 0) HRN.out.1)).mono ?_
        rintro r1 w1 ⟨v1, rfl, hrd1, hB1⟩
        obtain ⟨UB, ud, rfl⟩ := Sl.shape hrd1
        generalize (w32 r).length = nr at *
        have F1 := Lib.hid (And.intro hrd1 hB1)
        have hro : w1.ownsRow w.heap.size 35 1 u4 k us := by have := own_kept_below HOR.out.own hB1; rw [HTK.out.1] at this; exact this
        have HRO := Lib.hid hro
        clear hrd1 hB1 hro
        go_wp2_with (at_builtin; refine wpList_append_elder rfl (.tmp 21) (.tmp 27) 28 rfl w.heap.size 35 i0 (.slice none 0 0) 24 Tryd.underlying28 hi hz0 hz1 hz2 rfl u4 k us rfl (own_kept_below HRO.out ((Below.refl _ _).alloc (Nat.le_refl _) _)) _ rfl [.slice UB nr ud] (fun k => k = w1.heap.size) ⟨some ⟨w1.heap.size, 0, none⟩, 1, rfl, (fun e => by cases e), Nat.le_refl _, (fun j y hy => ⟨_, rfl, rfl, by rw [ad_add]; exact cell_new1 _ _ _ j y hy, by rw [ad_add]; exact blk_frozen (heap_alloc_new w1 _) j⟩)⟩ (by intro y hy; rw [List.mem_singleton.1 hy]; rfl) (by simp; unfold maxLen; omega) (by simp; omega) (by have := HB.out.size; have := F1.out.2.size; simp; omega) 0 0 (.slice none 0 0) [] (World.ownsRow_nil _ _ _ _) (fun g a b c d h => by cases h) ?_; intro v2 w2 ho2 hs2 hk2 he2 hp2; have F2 := Lib.hid (And.intro ho2 (And.intro hs2 hk2)); clear ho2 hs2 hk2 he2 hp2)
        go_roundg (gk - 1)
        case measure => have := HGG.out; omega
        case rel => exact HFIN.out _ v2 _ w1 w2 F1.out.2 F1.out.1 rfl F2.out.1 F2.out.2.1 F2.out.2.2 (nil_rd (ad := ad) (c := 0) HRN.out.2)
      · by_cases hc2 : c = 1 + n
        · obtain rfl : f = 0 := by omega
          subst hc2
          go_wp2_with fail
          refine (HCL.out _ (HP1.out _ (by omega))).mono ?_
          rintro r1 w1 ⟨v1, rfl, hrd1, hB1⟩
          obtain ⟨UB, ud, rfl⟩ := Sl.shape hrd1
          generalize (w32 r).length = nr at *
          have F1 := Lib.hid (And.intro hrd1 hB1)
          have hro : w1.ownsRow w.heap.size 35 1 u4 k us := by have := own_kept_below HOR.out.own hB1; rw [HTK.out.1] at this; exact this
          have HRO := Lib.hid hro
          clear hrd1 hB1 hro
          go_wp2_with (at_builtin; refine wpList_append_elder rfl (.tmp 21) (.tmp 27) 28 rfl w.heap.size 35 i0 (.slice none 0 0) 24 Tryd.underlying28 hi hz0 hz1 hz2 rfl u4 k us rfl (own_kept_below HRO.out ((Below.refl _ _).alloc (Nat.le_refl _) _)) _ rfl [.slice UB nr ud] (fun k => k = w1.heap.size) ⟨some ⟨w1.heap.size, 0, none⟩, 1, rfl, (fun e => by cases e), Nat.le_refl _, (fun j y hy => ⟨_, rfl, rfl, by rw [ad_add]; exact cell_new1 _ _ _ j y hy, by rw [ad_add]; exact blk_frozen (heap_alloc_new w1 _) j⟩)⟩ (by intro y hy; rw [List.mem_singleton.1 hy]; rfl) (by simp; unfold maxLen; omega) (by simp; omega) (by have := HB.out.size; have := F1.out.2.size; simp; omega) 0 0 (.slice none 0 0) [] (World.ownsRow_nil _ _ _ _) (fun g a b c d h => by cases h) ?_; intro v2 w2 ho2 hs2 hk2 he2 hp2; have F2 := Lib.hid (And.intro ho2 (And.intro hs2 hk2)); clear ho2 hs2 hk2 he2 hp2)
          go_roundg (gk - 1)
          case measure => have := HGG.out; omega
          case rel => exact HFIN.out _ v2 _ w1 w2 F1.out.2 F1.out.1 rfl F2.out.1 F2.out.2.1 F2.out.2.2 (by rw [Nat.sub_self]; exact nil_rd (ad := ad) (c := 0) HRN.out.2)
        · go_wp2_with fail
          refine (HCL.out _ (HP1.out _ (by omega))).mono ?_
          rintro r1 w1 ⟨v1, rfl, hrd1, hB1⟩
          obtain ⟨UB, ud, rfl⟩ := Sl.shape hrd1
          generalize (w32 r).length = nr at *
          have F1 := Lib.hid (And.intro hrd1 hB1)
          have hro : w1.ownsRow w.heap.size 35 1 u4 k us := by have := own_kept_below HOR.out.own hB1; rw [HTK.out.1] at this; exact this
          have HRO := Lib.hid hro
          clear hrd1 hB1 hro
          go_wp2_with (at_builtin; refine wpList_append_elder rfl (.tmp 21) (.tmp 27) 28 rfl w.heap.size 35 i0 (.slice none 0 0) 24 Tryd.underlying28 hi hz0 hz1 hz2 rfl u4 k us rfl (own_kept_below HRO.out ((Below.refl _ _).alloc (Nat.le_refl _) _)) _ rfl [.slice UB nr ud] (fun k => k = w1.heap.size) ⟨some ⟨w1.heap.size, 0, none⟩, 1, rfl, (fun e => by cases e), Nat.le_refl _, (fun j y hy => ⟨_, rfl, rfl, by rw [ad_add]; exact cell_new1 _ _ _ j y hy, by rw [ad_add]; exact blk_frozen (heap_alloc_new w1 _) j⟩)⟩ (by intro y hy; rw [List.mem_singleton.1 hy]; rfl) (by simp; unfold maxLen; omega) (by simp; omega) (by have := HB.out.size; have := F1.out.2.size; simp; omega) 0 0 (.slice none 0 0) [] (World.ownsRow_nil _ _ _ _) (fun g a b c d h => by cases h) ?_; intro v2 w2 ho2 hs2 hk2 he2 hp2; have F2 := Lib.hid (And.intro ho2 (And.intro hs2 hk2)); clear ho2 hs2 hk2 he2 hp2)
          go_roundg (gk - 1)
          case measure => have := HGG.out; omega
          case rel => exact HFIN.out _ v2 _ w1 w2 F1.out.2 F1.out.1 rfl F2.out.1 F2.out.2.1 F2.out.2.2 (by rw [Nat.add_sub_cancel_left]; exact HP2.out _ (by have := HCA.out; omega))
    · obtain rfl : k = rows.length := by have := HGG.out; omega
      have hd : flatL (rows.drop rows.length) = [] := by rw [List.drop_length]; rfl
      have h0 : (w32 (flatL (rows.drop rows.length))).length = 0 := by rw [w32_len, hd]; rfl
      rw [h0]
      have HT : Hid (rows.take rows.length = rows) := Lib.hid List.take_length
      clear hd h0 hlt
      go_wp2_with fail
      go_ret2
      refine ⟨_, rfl, ?_, HB.out⟩
      have := HOR.out
      rw [HT.out] at this
      exact this.rr HG.out
theorem PJ.rd {w : World} {bj bm : Nat} {vm : Value} {m : Mem} {s : JS} {FR : Nat → Prop} (h : PJ w bj bm vm m s FR) : Rd w FR s.v (flatL s.rows) := Sl.mono (own_Sl h.own) fun k _ hk => h.fr k hk
set_option maxHeartbeats 2000000 in
theorem precords_any {w : World} {bj bm : Nat} {vm : Value} {m : Mem} {s : JS} {FR : Nat → Prop} (h : PJ w bj bm vm m s FR) (hs : usedL s.rows ≤ 1000) (G : Nat → Prop) (hG : ∀ k, w.heap.size ≤ k → G k) :
    Calls Tryd.prog 27 #[.pointer (some ⟨bj, 0, none⟩)] w fun r w' => ∃ v, r = .returned v ∧ RR w' G v s.rows ∧ Below w.heap.size w w' := by
  have HS := Lib.hid (psplit_any (G2 := G) h.rd (errL_long h.err) (by omega) hG)
  have c2 := blk_cell h.blk 2
  simp only [List.getElem?_toArray, List.getElem?_cons_succ, List.getElem?_cons_zero] at c2
  clear h hs hG
  go_enter Tryd.func27, Tryd.ntmps27
  go_wp2_with fail
  refine HS.out.mono ?_
  rintro r w1 ⟨v', rfl, hrr, hB⟩
  have HF := Lib.hid (And.intro hrr hB)
  clear hrr hB
  go_wp2_with fail
  go_ret
  exact ⟨v', rfl, HF.out.1, HF.out.2⟩
end J
end Go.Proofs.YtnoohhpajoaaoaaDoor
