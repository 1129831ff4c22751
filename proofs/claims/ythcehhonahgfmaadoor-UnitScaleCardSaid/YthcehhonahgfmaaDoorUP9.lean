/-
  Contract of the program's split.
-/
import Derived.Test.YthcehhonahgfmaaDoorUP7
import Derived.Test.YthcehhonahgfmaaDoorApp2
import Derived.Test.YthcehhonahgfmaaDoorURef
import Derived.OwnWalk
import Derived.Deep.LoopGhost
namespace Go.Proofs.YthcehhonahgfmaaDoor
open Go.RowKit
namespace U
open H
set_option linter.unusedVariables false
set_option maxRecDepth 100000

/-! ### Lengths -/
theorem cutT_len (c : UInt8) (l : List UInt8) : (cutT c l).1.length ≤ l.length ∧ (cutT c l).2.1.length ≤ l.length := by
  have h := List.takeWhile_append_dropWhile (p := (· != c)) (l := l)
  have hl := congrArg List.length h
  rw [List.length_append] at hl
  unfold cutT
  cases hd : l.dropWhile (· != c) with
  | nil => exact ⟨by show (l.takeWhile _).length ≤ _; omega, by simp⟩
  | cons x r =>
    rw [hd, List.length_cons] at hl
    exact ⟨by show (l.takeWhile _).length ≤ _; omega, by show r.length ≤ _; omega⟩
theorem splitT_len (c : UInt8) : ∀ l : List UInt8, (splitT c l).length ≤ l.length + 1 ∧ ∀ p ∈ splitT c l, p.length ≤ l.length
  | [] => by simp [splitT]
  | x :: xs => by
    have ih := splitT_len c xs
    unfold splitT
    split
    · refine ⟨by simp; exact ih.1, fun p hp => ?_⟩
      rcases List.mem_cons.1 hp with rfl | hp
      · simp
      · have := ih.2 p hp; simp; omega
    · cases hs : splitT c xs with
      | nil => simp
      | cons q qs =>
        rw [hs] at ih
        refine ⟨by simp at ih ⊢; omega, fun p hp => ?_⟩
        rcases List.mem_cons.1 hp with rfl | hp
        · have := ih.2 q (by simp); simp; omega
        · have := ih.2 p (by simp [hp]); simp; omega
theorem pfac_len {s : List UInt8} {f : PF} (h : pfacT s = some f) : f.u.length ≤ s.length ∧ f.x.length ≤ s.length := by
  unfold pfacT at h
  dsimp only at h
  split at h
  · cases h
  · injection h with h
    subst h
    exact cutT_len 94 s
theorem pfacs_snoc : ∀ (a : List (List UInt8)) (p : List UInt8) (done : List PF) (f : PF), pfacsT a = some done → pfacT p = some f → pfacsT (a ++ [p]) = some (done ++ [f])
  | [], p, done, f, h, hp => by
    injection h with h
    subst h
    show pfacsT [p] = _
    unfold pfacsT
    rw [hp]
    rfl
  | s :: ss, p, done, f, h, hp => by
    show pfacsT (s :: (ss ++ [p])) = _
    unfold pfacsT at h ⊢
    cases h1 : pfacT s with
    | none => rw [h1] at h; cases h
    | some g =>
      rw [h1] at h
      simp only [] at h ⊢
      cases h2 : pfacsT ss with
      | none => rw [h2] at h; cases h
      | some r =>
        rw [h2] at h
        injection h with h
        subst h
        rw [pfacs_snoc ss p r f h2 hp]
        rfl
theorem pfacs_none : ∀ (l : List (List UInt8)) (p : List UInt8), p ∈ l → pfacT p = none → pfacsT l = none
  | [], p, h, _ => by cases h
  | s :: ss, p, h, hp => by
    unfold pfacsT
    rcases List.mem_cons.1 h with rfl | h
    · rw [hp]
    · cases h1 : pfacT s with
      | none => rfl
      | some g =>
        simp only []
        rw [pfacs_none ss p h hp]
        rfl
theorem pfacs_len : ∀ (l : List (List UInt8)) (fs : List PF), pfacsT l = some fs → fs.length = l.length
  | [], fs, h => by injection h with h; subst h; rfl
  | s :: ss, fs, h => by
    unfold pfacsT at h
    cases h1 : pfacT s with
    | none => rw [h1] at h; cases h
    | some g =>
      rw [h1] at h
      simp only [] at h
      cases h2 : pfacsT ss with
      | none => rw [h2] at h; cases h
      | some r =>
        rw [h2] at h
        injection h with h
        subst h
        simp [pfacs_len ss r h2]
theorem pfacs_mem : ∀ (l : List (List UInt8)) (fs : List PF), pfacsT l = some fs → ∀ f ∈ fs, ∃ p ∈ l, pfacT p = some f
  | [], fs, h => by injection h with h; subst h; simp
  | s :: ss, fs, h => by
    unfold pfacsT at h
    cases h1 : pfacT s with
    | none => rw [h1] at h; cases h
    | some g =>
      rw [h1] at h
      simp only [] at h
      cases h2 : pfacsT ss with
      | none => rw [h2] at h; cases h
      | some r =>
        rw [h2] at h
        injection h with h
        subst h
        intro f hf
        rcases List.mem_cons.1 hf with rfl | hf
        · exact ⟨s, by simp, h1⟩
        · obtain ⟨p, hp, hh⟩ := pfacs_mem ss r h2 f hf
          exact ⟨p, by simp [hp], hh⟩
theorem pspl_len {l n : List UInt8} {fs : List PF} (h : psplT l = some (n, fs)) : n.length ≤ l.length ∧ fs.length ≤ l.length + 1 ∧ ∀ f ∈ fs, f.u.length ≤ l.length ∧ f.x.length ≤ l.length := by
  have hc := cutT_len 32 l
  unfold psplT at h
  dsimp only at h
  split at h
  · cases h
  · split at h
    · injection h with h
      injection h with h1 h2
      subst h1; subst h2
      exact ⟨hc.1, by simp, by simp⟩
    · cases h2 : pfacsT (splitT 42 (cutT 32 l).2.1) with
      | none => rw [h2] at h; cases h
      | some gs =>
        rw [h2] at h
        injection h with h
        injection h with h3 h4
        subst h3; subst h4
        have hs := splitT_len 42 (cutT 32 l).2.1
        refine ⟨hc.1, by rw [pfacs_len _ _ h2]; omega, fun f hf => ?_⟩
        obtain ⟨p, hp, hh⟩ := pfacs_mem _ _ h2 f hf
        have h5 := pfac_len hh
        have h6 := hs.2 p hp
        omega
/-! ### The walk -/
def pfV (fs : List PF) : List Value := (fs.map fun f => [Value.string ⟨f.u.toArray⟩, .string ⟨f.x.toArray⟩, .bool f.g]).flatten
theorem pfV_snoc (fs : List PF) (f : PF) : pfV (fs ++ [f]) = pfV fs ++ [.string ⟨f.u.toArray⟩, .string ⟨f.x.toArray⟩, .bool f.g] := by
  unfold pfV
  rw [List.map_append, List.flatten_append]
  simp
theorem cut_at (c : UInt8) (s : ByteArray) (hs : s.size ≤ 100) (w : World) (tb : Tab w) :
    Calls Tryd.prog 65 #[.string s, .string ⟨#[c]⟩] w fun r w' => r = .returned (.tuple #[.string ⟨(cutT c s.data.toList).1.toArray⟩, .string ⟨(cutT c s.data.toList).2.1.toArray⟩, .bool (cutT c s.data.toList).2.2]) ∧ ∃ n, w' = w.drewN n := by
  obtain ⟨m, hm⟩ := tb.maxl
  have h := Tryd.strings_Cut s ⟨#[c]⟩ m w (by omega) hm
  have e := cut_one c s.data.toList
  rw [show (⟨#[c]⟩ : ByteArray).data.toList = [c] from rfl, e] at h
  exact h
theorem split_at (c : UInt8) (s : ByteArray) (hs : s.size ≤ 100) : ∃ Q : List ByteArray, Q.map (·.data.toList) = splitT c s.data.toList ∧ ∀ w, Tab w →
    Calls Tryd.prog 67 #[.string s, .string ⟨#[c]⟩] w fun r w' => r = .returned (.slice (some ⟨w.heap.size, 0, none⟩) Q.length Q.length) ∧ w' = w.alloc (.cells (Q.map Value.string).toArray 9) := by
  refine ⟨Lib.splitB ⟨#[c]⟩ 0 (Lib.countB s ⟨#[c]⟩) s, splitB_one c s, fun w tb => ?_⟩
  obtain ⟨m, hm⟩ := tb.maxl
  have h1 : 1 ≤ (⟨#[c]⟩ : ByteArray).size := Nat.le_refl 1
  have h := Tryd.strings_Split s ⟨#[c]⟩ m w (by omega) hm h1
  rw [← Lib.splitB_all ⟨#[c]⟩ h1 0 _ s rfl] at h
  exact h
theorem modify_push {α : Type} (h : Array α) (o : α) (f : α → α) : (h.push o).modify h.size f = h.push (f o) := by
  apply Array.ext
  · simp
  · intro i h1 h2
    rw [Array.getElem_modify]
    simp only [Array.getElem_push]
    by_cases hi : i < h.size
    · rw [if_neg (by omega)]
      simp [hi]
    · have hh : h.size = i := by simp at h2; omega
      simp [hh]
theorem fill3 (w : World) (n : Nat) (t : TypeId) (a b c x y z : Value) : (((((w.alloc (.cells #[a, b, c] t)).drewN n).setCell ⟨w.heap.size, 0, none⟩ x).setCell ⟨w.heap.size, 1, none⟩ y).setCell ⟨w.heap.size, 2, none⟩ z) = (w.drewN n).alloc (.cells #[x, y, z] t) := by
  unfold World.setCell World.drewN World.alloc
  simp only [modify_push]
  rfl
def SplitPost (p : Option (List UInt8 × List PF)) (r : Ending) (B : Nat) (w' : World) : Prop :=
  match p with
  | none => r = .returned (.tuple #[.string ⟨#[]⟩, .slice none 0 0, .bool false])
  | some (n, fs) => ∃ z, r = .returned (.tuple #[.string ⟨n.toArray⟩, z, .bool true]) ∧ w'.ownsRow B 63 3 z fs.length (pfV fs)
theorem SplitPost.none {p : Option (List UInt8 × List PF)} {B : Nat} {w' : World} (hp : p = Option.none) : SplitPost p (.returned (.tuple #[.string ⟨#[]⟩, .slice Option.none 0 0, .bool false])) B w' := by
  subst hp
  exact rfl
theorem SplitPost.some {p : Option (List UInt8 × List PF)} {B : Nat} {w' : World} {n : List UInt8} {nb : ByteArray} {fs : List PF} {z : Value} (hp : p = Option.some (n, fs)) (hn : (⟨n.toArray⟩ : ByteArray) = nb) (ho : w'.ownsRow B 63 3 z fs.length (pfV fs)) : SplitPost p (.returned (.tuple #[.string nb, z, .bool true])) B w' := by
  subst hp; subst hn
  exact ⟨z, rfl, ho⟩
theorem ownsRow_lower {w : World} {B B' : Nat} {e : TypeId} {sz : Nat} {v : Value} {n : Nat} {xs : List Value} (h : w.ownsRow B e sz v n xs) (hB : B' ≤ B) : w.ownsRow B' e sz v n xs := by
  refine ⟨h.1, ?_⟩
  rcases h.2 with h2 | ⟨g, cap, cur, hv, hg, hr⟩
  · exact .inl h2
  · exact .inr ⟨g, cap, cur, hv, by omega, hr⟩
theorem infoF : (Tryd.prog.info? 63).map (fun i => (i.zero, i.size, i.bytes)) = some (some (.agg #[.string ⟨#[]⟩, .string ⟨#[]⟩, .bool false]), 3, 40) := by kernel_rfl
set_option maxHeartbeats 1000000 in
theorem psplit_any (s : ByteArray) (w : World) (tb : Tab w) (hs : s.size ≤ 100) :
    Calls Tryd.prog 52 #[.string s] w fun r w' => Below w.heap.size w w' ∧ SplitPost (psplT s.data.toList) r w.heap.size w' := by
  obtain ⟨i0, hinf, hz0, hz1, hz2⟩ := info_parts infoF
  have HC := Lib.hid (cut_at 32 s hs w tb)
  have hcl := cutT_len 32 s.data.toList
  obtain ⟨p, hp⟩ : ∃ p, psplT s.data.toList = p := ⟨_, rfl⟩
  rw [hp]
  unfold psplT at hp
  dsimp only at hp
  generalize cutT 32 s.data.toList = k at HC hcl hp
  obtain ⟨nl, rl, more⟩ := k
  dsimp only at hp hcl HC
  have hsl : s.data.toList.length = s.size := rfl
  have HN := Lib.hid (fun W => pisnum_any ⟨nl.toArray⟩ W (by show nl.toArray.size ≤ 100; simp; omega))
  obtain ⟨nb, hnb⟩ : ∃ nb : ByteArray, (⟨nl.toArray⟩ : ByteArray) = nb := ⟨_, rfl⟩
  obtain ⟨rb, hrb⟩ : ∃ rb : ByteArray, (⟨rl.toArray⟩ : ByteArray) = rb := ⟨_, rfl⟩
  have hnd : nl = nb.data.toList := by rw [← hnb]
  have hrd : rl = rb.data.toList := by rw [← hrb]
  rw [hnb] at HN
  rw [hnb, hrb] at HC
  rw [← hnd] at HN
  cases hnum : (numT nl).2
  · rw [hnum] at hp HN
    simp only [if_true] at hp
    subst hp
    clear hnum hnb hrb hnd hrd hcl
    go_enter Tryd.func52, Tryd.ntmps52
    go_wp2_with fail
    refine HC.out.mono ?_
    rintro r w1 ⟨rfl, n, hw⟩
    have HB := Lib.hid (show Below w.heap.size w w1 by rw [hw]; exact below_grow w n #[])
    clear hw
    go_wp2_with fail
    refine (HN.out _).mono ?_
    rintro r w2 ⟨rfl, rfl⟩
    go_wp2_with fail
    refine bodyPost_ret (results_tmp3 rfl _ _ _) rfl ?_
    refine ⟨HB.out, SplitPost.none rfl⟩
  · rw [hnum] at hp HN
    simp only [Bool.true_eq_false, if_false] at hp
    cases more
    · simp only [if_true] at hp
      subst hp
      clear hnum hrb hrd hcl
      have HNB := Lib.hid hnb
      clear hnb hnd
      go_enter Tryd.func52, Tryd.ntmps52
      go_wp2_with fail
      refine HC.out.mono ?_
      rintro r w1 ⟨rfl, n, hw⟩
      have HB := Lib.hid (show Below w.heap.size w w1 by rw [hw]; exact below_grow w n #[])
      clear hw
      go_wp2_with fail
      refine (HN.out _).mono ?_
      rintro r w2 ⟨rfl, rfl⟩
      go_wp2_with fail
      refine bodyPost_ret (results_tmp3 rfl _ _ _) rfl ?_
      refine ⟨HB.out, SplitPost.some rfl HNB.out (World.ownsRow_nil _ _ _ _)⟩
    · simp only [Bool.true_eq_false, if_false] at hp
      obtain ⟨Q, hQ, hsp⟩ := split_at 42 rb (by have : rb.size = rb.data.toList.length := rfl; rw [← hrd] at this; omega)
      rw [← hrd] at hQ
      have HSP := Lib.hid hsp
      have hlen := splitT_len 42 rl
      have hQl : Q.length ≤ 101 := by
        have := congrArg List.length hQ
        rw [List.length_map] at this
        omega
      have hQs : ∀ b ∈ Q, b.size ≤ 100 := fun b hb => by
        have h1 : b.data.toList ∈ Q.map (·.data.toList) := List.mem_map_of_mem hb
        rw [hQ] at h1
        have := hlen.2 _ h1
        show b.data.toList.length ≤ 100
        omega
      rw [← hQ] at hp
      have HP := Lib.hid hp
      have HNB := Lib.hid hnb
      clear hp hsp hlen hQ hnd hrd hnb hrb hcl hnum hsl
      go_enter Tryd.func52, Tryd.ntmps52
      go_wp2_with fail
      refine HC.out.mono ?_
      rintro r w1 ⟨rfl, n, hw⟩
      have hB := below_grow w n #[]
      change Below w.heap.size w (w.drewN n) at hB
      rw [← hw] at hB
      have HB := Lib.hid hB
      clear hw hB
      go_wp2_with fail
      refine (HN.out _).mono ?_
      rintro r w2 ⟨rfl, rfl⟩
      go_wp2_with fail
      refine (HSP.out _ (tb.below HB.out)).mono ?_
      rintro r w3 ⟨rfl, hw3⟩
      go_wp2_with fail
      have HB3 := Lib.hid (show Below w.heap.size w w3 by rw [hw3]; exact HB.out.alloc HB.out.size _)
      have hsz3 : w3.heap.size = w2.heap.size + 1 := by rw [hw3]; simp
      have HCELL := Lib.hid (show w3.heap[w2.heap.size]? = some (.cells (Q.map Value.string).toArray 9 (0, 0)) by rw [hw3]; exact heap_alloc_new w2 _)
      have HREF := Lib.hid (show Below w3.heap.size w3 (w2.alloc (.cells (Q.map Value.string).toArray 9)) by rw [← hw3]; exact Below.refl _ _)
      clear hw3
      go_loopg [8, 27] Q.length (fun g y i wr => ∃ (j : Nat) (done : List PF) (z : Value), j + g = Q.length ∧ z = y ∧ i = .int .i64 j ∧ pfacsT ((Q.map (·.data.toList)).take j) = some done ∧ wr.ownsRow w3.heap.size 63 3 z j (pfV done) ∧ Below w3.heap.size w3 wr)
      case atStart => exact ⟨0, [], _, by omega, rfl, rfl, rfl, World.ownsRow_nil _ _ _ _, HREF.out⟩
      case round =>
        obtain ⟨j, done, z, hg, rfl, rfl, hd, hown, hb⟩ := hrel
        have HG := Lib.hid hg
        have hj : j ≤ Q.length := by omega
        have HD := Lib.hid hd
        have HO := Lib.hid hown
        have HBW := Lib.hid hb
        have hszr := hb.size
        clear hg hd hown hb
        by_cases hlt : j < Q.length
        · have hi : (j : Int) < (Q.length : Int) := by omega
          have hi0 : (0 : Int) ≤ (j : Int) := by omega
          obtain ⟨b, hb⟩ : ∃ b, Q[j] = b := ⟨_, rfl⟩
          have hbQ : Q[j]? = some b := by rw [List.getElem?_eq_getElem hlt, hb]
          have hbs := hQs b (List.mem_of_getElem? hbQ)
          have hcell : wr.cell? ⟨w2.heap.size, j, none⟩ = some (.string b) := by
            rw [HBW.out.cell (p := ⟨w2.heap.size, j, none⟩) (by show w2.heap.size < _; omega), cell_of_row _ w2.heap.size j _ _ _ HCELL.out]
            simp [hbQ]
          have HPJ := Lib.hid (show (Q.map (·.data.toList))[j]? = some b.data.toList by rw [List.getElem?_map, hbQ]; rfl)
          have HLT := Lib.hid hlt
          clear hb hlt
          have HCB := Lib.hid (fun W tb => cut_at 94 b hbs W tb)
          have hcl := cutT_len 94 b.data.toList
          have HPF := Lib.hid (show pfacT b.data.toList = if lets (cutT 94 b.data.toList).1 = false ∨ ((cutT 94 b.data.toList).2.2 = true ∧ (numT (cutT 94 b.data.toList).2.1).2 = false) then none else some ⟨(cutT 94 b.data.toList).1, (cutT 94 b.data.toList).2.1, (cutT 94 b.data.toList).2.2⟩ from rfl)
          generalize cutT 94 b.data.toList = k at HCB hcl HPF
          obtain ⟨ul, xl, gp⟩ := k
          dsimp only at HCB hcl HPF
          have hbl : b.data.toList.length = b.size := rfl
          obtain ⟨ub, hub⟩ : ∃ ub : ByteArray, (⟨ul.toArray⟩ : ByteArray) = ub := ⟨_, rfl⟩
          obtain ⟨xb, hxb⟩ : ∃ xb : ByteArray, (⟨xl.toArray⟩ : ByteArray) = xb := ⟨_, rfl⟩
          have hud : ul = ub.data.toList := by rw [← hub]
          have hxd : xl = xb.data.toList := by rw [← hxb]
          have HNU := Lib.hid (fun W => pisname_any ub W (by show ub.data.toList.length ≤ 100; rw [← hud]; omega))
          have HNX := Lib.hid (fun W => pisnum_any xb W (by show xb.data.toList.length ≤ 100; rw [← hxd]; omega))
          rw [← hud] at HNU
          rw [← hxd] at HNX
          rw [hub, hxb] at HCB
          have HUX := Lib.hid (And.intro hub hxb)
          clear hub hxb hud hxd hcl hbl
          go_wp2_with fail
          refine (HCB.out _ ((tb.below HB3.out).below (HBW.out.alloc HBW.out.size _))).mono ?_
          rintro r w4 ⟨rfl, n, rfl⟩
          go_wp2_with fail
          rw [fill3]
          obtain ⟨wn, hwn⟩ : ∃ wn, wr.drewN n = wn := ⟨_, rfl⟩
          have hsn : wr.heap.size = wn.heap.size := by rw [← hwn]; rfl
          have hBn : Below wr.heap.size wr wn := by rw [← hwn]; exact below_grow wr n #[]
          have HO2 := Lib.hid (ownsRow_below HO.out hBn)
          have HBn := Lib.hid (HBW.out.trans (hBn.mono HBW.out.size))
          rw [hwn, hsn]
          clear hwn hBn
          refine (HNU.out _).mono ?_
          rintro r w5 ⟨rfl, rfl⟩
          cases hlu : lets ul
          · have HNO := Lib.hid (HPF.out.trans (if_pos (Or.inl hlu)))
            clear hlu
            go_wp2_with fail
            refine bodyPost_ret (results_tmp3 rfl _ _ _) rfl ?_
            refine ⟨HB3.out.trans ((HBn.out.alloc HBn.out.size _).mono HB3.out.size), SplitPost.none ?_⟩
            rw [← HP.out, pfacs_none _ _ (List.mem_of_getElem? HPJ.out) HNO.out]
            rfl
          · cases gp
            · have HYE := Lib.hid (HPF.out.trans (if_neg (by rw [hlu]; simp)))
              clear hlu
              have HDN := Lib.hid (pfacs_snoc _ _ done _ HD.out HYE.out)
              have hbnd : j + 1 ≤ 101 := by have := HLT.out; omega
              go_wp2_with (at_builtin; refine wpList_append_new rfl (.tmp 54) (.tmp 56) 58 rfl w3.heap.size 63 i0 (.agg #[.string ⟨#[]⟩, .string ⟨#[]⟩, .bool false]) 3 40 Tryd.underlying58 hinf hz0 hz1 hz2 rfl (by decide) _ _ _ rfl ((HO2.out.alloc _).alloc _) (wn.heap.size + 1) 1 [.string ub, .string xb, .bool false] rfl rfl (fun l u hu => by rw [World.cell?_alloc2_new]; simpa using hu) (by simp [Value.oneCell']) (by unfold maxLen; omega) (by omega) (by have := HBn.out.size; simp; omega) ?_; intro v2 w6 ho2 hb2; have HO3 := Lib.hid ho2; have HB6 := Lib.hid (((HBn.out.alloc HBn.out.size _).alloc (by have := HBn.out.size; simp; omega) _).trans hb2); clear ho2 hb2)
              go_roundg (gk - 1)
              case measure => have := HG.out; have := HLT.out; omega
              case rel =>
                refine ⟨j + 1, done ++ [⟨ul, xl, false⟩], _, by have := HG.out; have := HLT.out; omega, rfl, by go_num, ?_, ?_, HB6.out⟩
                · rw [List.take_add_one, HPJ.out]; exact HDN.out
                · rw [pfV_snoc, HUX.out.1, HUX.out.2]; exact HO3.out
            · cases hnx : (numT xl).2
              · have HNO := Lib.hid (HPF.out.trans (if_pos (Or.inr ⟨rfl, hnx⟩)))
                rw [hnx] at HNX
                clear hnx hlu
                go_wp2_with fail
                refine (HNX.out _).mono ?_
                rintro r w6 ⟨rfl, rfl⟩
                go_wp2_with fail
                refine bodyPost_ret (results_tmp3 rfl _ _ _) rfl ?_
                refine ⟨HB3.out.trans ((HBn.out.alloc HBn.out.size _).mono HB3.out.size), SplitPost.none ?_⟩
                rw [← HP.out, pfacs_none _ _ (List.mem_of_getElem? HPJ.out) HNO.out]
                rfl
              · have HYE := Lib.hid (HPF.out.trans (if_neg (by rw [hlu, hnx]; simp)))
                rw [hnx] at HNX
                clear hnx hlu
                go_wp2_with fail
                refine (HNX.out _).mono ?_
                rintro r w6 ⟨rfl, rfl⟩
                have HDN := Lib.hid (pfacs_snoc _ _ done _ HD.out HYE.out)
                have hbnd : j + 1 ≤ 101 := by have := HLT.out; omega
                go_wp2_with (at_builtin; refine wpList_append_new rfl (.tmp 54) (.tmp 56) 58 rfl w3.heap.size 63 i0 (.agg #[.string ⟨#[]⟩, .string ⟨#[]⟩, .bool false]) 3 40 Tryd.underlying58 hinf hz0 hz1 hz2 rfl (by decide) _ _ _ rfl ((HO2.out.alloc _).alloc _) (wn.heap.size + 1) 1 [.string ub, .string xb, .bool true] rfl rfl (fun l u hu => by rw [World.cell?_alloc2_new]; simpa using hu) (by simp [Value.oneCell']) (by unfold maxLen; omega) (by omega) (by have := HBn.out.size; simp; omega) ?_; intro v2 w6 ho2 hb2; have HO3 := Lib.hid ho2; have HB6 := Lib.hid (((HBn.out.alloc HBn.out.size _).alloc (by have := HBn.out.size; simp; omega) _).trans hb2); clear ho2 hb2)
                go_roundg (gk - 1)
                case measure => have := HG.out; have := HLT.out; omega
                case rel =>
                  refine ⟨j + 1, done ++ [⟨ul, xl, true⟩], _, by have := HG.out; have := HLT.out; omega, rfl, by go_num, ?_, ?_, HB6.out⟩
                  · rw [List.take_add_one, HPJ.out]; exact HDN.out
                  · rw [pfV_snoc, HUX.out.1, HUX.out.2]; exact HO3.out
        · have hi : ¬ (j : Int) < (Q.length : Int) := by omega
          have hall : (Q.map (·.data.toList)).take j = Q.map (·.data.toList) := List.take_of_length_le (by rw [List.length_map]; omega)
          have hd2 := HD.out
          rw [hall] at hd2
          have hdl := pfacs_len _ _ hd2
          rw [List.length_map] at hdl
          have HDL := Lib.hid (show j = done.length by omega)
          have HP2 := Lib.hid (show p = some (nl, done) by rw [← HP.out, hd2]; rfl)
          clear hall hd2 hdl
          go_wp2_with fail
          refine bodyPost_ret (results_tmp3 rfl _ _ _) rfl ?_
          refine ⟨HB3.out.trans (HBW.out.mono HB3.out.size), SplitPost.some HP2.out HNB.out ?_⟩
          have ho := ownsRow_lower HO.out (show w.heap.size ≤ w3.heap.size from HB3.out.size)
          rw [HDL.out] at ho
          exact ho
end U
end Go.Proofs.YthcehhonahgfmaaDoor
