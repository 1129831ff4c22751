/-
  Contract of the specification's form.
-/
import Derived.Test.YthcehhonahgfmaaDoorUR8
namespace Go.Proofs.YthcehhonahgfmaaDoor
open Go.RowKit
namespace U
open H
set_option linter.unusedVariables false
set_option maxRecDepth 100000
theorem tw_take {c : UInt8} : ∀ {l : List UInt8} {j : Nat}, (∀ x ∈ l.take j, x ≠ c) → (l.length ≤ j ∨ l[j]? = some c) → l.takeWhile (· != c) = l.take j ∧ l.dropWhile (· != c) = l.drop j
  | [], j, h, _ => by simp
  | x :: xs, 0, h, hc => by
    rcases hc with hc | hc
    · simp at hc
    · simp at hc
      subst hc
      simp
  | x :: xs, j + 1, h, hc => by
    have hx : (x != c) = true := by simpa using h x (by simp)
    have ih := tw_take (l := xs) (j := j) (fun y hy => h y (by simp [hy])) (by
      rcases hc with hc | hc
      · left; simp at hc; omega
      · right; simpa using hc)
    rw [List.takeWhile_cons, if_pos hx, List.dropWhile_cons, if_pos hx, ih.1, ih.2]
    exact ⟨rfl, rfl⟩
def fcV (fs : List Fac) : List Value := (fs.map fun f => [Value.string ⟨f.u.toArray⟩, .int .i64 f.e, .bool f.g]).flatten
theorem fcV_snoc (fs : List Fac) (f : Fac) : fcV (fs ++ [f]) = fcV fs ++ [.string ⟨f.u.toArray⟩, .int .i64 f.e, .bool f.g] := by
  unfold fcV
  rw [List.map_append, List.flatten_append]
  simp
theorem facs_snoc : ∀ (a : List (List UInt8)) (p : List UInt8) (done : List Fac) (f : Fac), facsT a = some done → facT p = some f → facsT (a ++ [p]) = some (done ++ [f])
  | [], p, done, f, h, hp => by
    injection h with h
    subst h
    show facsT [p] = _
    unfold facsT
    rw [hp]
    rfl
  | s :: ss, p, done, f, h, hp => by
    show facsT (s :: (ss ++ [p])) = _
    unfold facsT at h ⊢
    cases h1 : facT s with
    | none => rw [h1] at h; cases h
    | some g =>
      rw [h1] at h
      simp only [] at h ⊢
      cases h2 : facsT ss with
      | none => rw [h2] at h; cases h
      | some r =>
        rw [h2] at h
        injection h with h
        subst h
        rw [facs_snoc ss p r f h2 hp]
        rfl
theorem facs_none : ∀ (l : List (List UInt8)) (p : List UInt8), p ∈ l → facT p = none → facsT l = none
  | [], p, h, _ => by cases h
  | s :: ss, p, h, hp => by
    unfold facsT
    rcases List.mem_cons.1 h with rfl | h
    · rw [hp]
    · cases h1 : facT s with
      | none => rfl
      | some g =>
        simp only []
        rw [facs_none ss p h hp]
        rfl
theorem facs_len : ∀ (l : List (List UInt8)) (fs : List Fac), facsT l = some fs → fs.length = l.length
  | [], fs, h => by injection h with h; subst h; rfl
  | s :: ss, fs, h => by
    unfold facsT at h
    cases h1 : facT s with
    | none => rw [h1] at h; cases h
    | some g =>
      rw [h1] at h
      simp only [] at h
      cases h2 : facsT ss with
      | none => rw [h2] at h; cases h
      | some r =>
        rw [h2] at h
        injection h with h
        subst h
        simp [facs_len ss r h2]
theorem form_bd {l : List UInt8} {n : Int} {fs : List Fac} (h : formT l = some (n, fs)) : fs.length ≤ l.length + 1 ∧ (-2147483648 ≤ n ∧ n ≤ 2147483648) := by
  unfold formT at h
  dsimp only at h
  have hb := num_bd (l.takeWhile (· != 32))
  generalize numT (l.takeWhile (· != 32)) = k at h hb
  obtain ⟨kn, kb⟩ := k
  dsimp only at h hb
  cases kb
  · simp at h
  · simp only [if_true] at h
    have hl := congrArg List.length (List.takeWhile_append_dropWhile (p := (· != 32)) (l := l))
    rw [List.length_append] at hl
    cases hd : l.dropWhile (· != 32) with
    | nil =>
      rw [hd] at h
      injection h with h
      injection h with h1 h2
      subst h1; subst h2
      exact ⟨by simp, hb⟩
    | cons x r =>
      rw [hd] at h hl
      simp only [] at h
      cases h2 : facsT (splitT 42 r) with
      | none => rw [h2] at h; cases h
      | some gs =>
        rw [h2] at h
        injection h with h
        injection h with h3 h4
        subst h3; subst h4
        refine ⟨?_, hb⟩
        rw [facs_len _ _ h2]
        have := (splitT_len 42 r).1
        rw [List.length_cons] at hl
        omega
def FormPost (p : Option (Int × List Fac)) (r : Ending) (B : Nat) (w' : World) : Prop :=
  match p with
  | none => ∃ n : Int, r = .returned (.tuple #[.int .i64 n, .slice none 0 0, .bool false])
  | some (n, fs) => ∃ z, r = .returned (.tuple #[.int .i64 n, z, .bool true]) ∧ w'.ownsRow B 71 3 z fs.length (fcV fs)
theorem FormPost.none {p : Option (Int × List Fac)} {B : Nat} {w' : World} (n : Int) (hp : p = Option.none) : FormPost p (.returned (.tuple #[.int .i64 n, .slice Option.none 0 0, .bool false])) B w' := by
  subst hp
  exact ⟨n, rfl⟩
theorem FormPost.some {p : Option (Int × List Fac)} {B : Nat} {w' : World} {n : Int} {fs : List Fac} {z : Value} (hp : p = Option.some (n, fs)) (ho : w'.ownsRow B 71 3 z fs.length (fcV fs)) : FormPost p (.returned (.tuple #[.int .i64 n, z, .bool true])) B w' := by
  subst hp
  exact ⟨z, rfl, ho⟩
theorem infoFac : (Tryd.prog.info? 71).map (fun i => (i.zero, i.size, i.bytes)) = some (some (.agg #[.string ⟨#[]⟩, .int .i64 0, .bool false]), 3, 32) := by kernel_rfl
set_option maxHeartbeats 2000000 in
theorem rform_any (s : ByteArray) (w : World) (hs : s.size ≤ 100) :
    Calls Tryd.prog 56 #[.string s] w fun r w' => Below w.heap.size w w' ∧ FormPost (formT s.data.toList) r w.heap.size w' := by
  obtain ⟨i0, hinf, hz0, hz1, hz2⟩ := info_parts infoFac
  obtain ⟨l, hl⟩ : ∃ l, s.data.toList = l := ⟨_, rfl⟩
  have hsl : l.length = s.size := by rw [← hl]; rfl
  have HL0 := Lib.hid hl
  rw [hl]
  obtain ⟨p, hp⟩ : ∃ p, formT l = p := ⟨_, rfl⟩
  rw [hp]
  unfold formT at hp
  dsimp only at hp
  have HP := Lib.hid hp
  clear hp hl
  go_enter Tryd.func56, Tryd.ntmps56
  go_wp2_with fail
  go_loopg [5] s.size (fun g i wr => ∃ j : Nat, j + g = s.size ∧ i = .int .i64 j ∧ (∀ x ∈ l.take j, x ≠ 32) ∧ wr = w)
  case atStart => exact ⟨0, by omega, rfl, by simp, rfl⟩
  case round =>
    obtain ⟨j, hg, rfl, hall, rfl⟩ := hrel
    have HG := Lib.hid hg
    have HALL := Lib.hid hall
    have hj : j ≤ s.size := by omega
    clear hg hall
    by_cases hlt : j < s.size
    · have hi : (j : Int) < (s.size : Int) := by omega
      have hi0 : (0 : Int) ≤ (j : Int) := by omega
      have hat := byte_at hlt
      obtain ⟨c, hc⟩ : ∃ c, s[j] = c := ⟨_, rfl⟩
      rw [hc, HL0.out] at hat
      have HLT := Lib.hid hlt
      have HAT := Lib.hid hat
      by_cases h32 : c = 32
      · have hx : (((s[j]'hlt).toNat : Int) == 32) = true := by rw [hc, h32]; rfl
        have hje : ((j : Int) == (s.size : Int)) = false := by simp; omega
        subst h32
        obtain ⟨h1, h2⟩ := tw_take HALL.out (Or.inr HAT.out)
        have hp := HP.out
        rw [h1, h2] at hp
        have hdr : l.drop j = 32 :: l.drop (j + 1) := by
          obtain ⟨hj2, he⟩ := List.getElem?_eq_some_iff.1 hat
          rw [List.drop_eq_getElem_cons hj2, he]
        rw [hdr] at hp
        have htk : (s.extract 0 j).data.toList = l.take j := by rw [ext_mid, HL0.out]; simp
        have HN := Lib.hid (fun W => rnum_any (s.extract 0 j) W (by simp; omega))
        rw [htk] at HN
        obtain ⟨k, hk⟩ : ∃ k, numT (l.take j) = k := ⟨_, rfl⟩
        rw [hk] at HN hp
        have hkb := num_bd (l.take j)
        rw [hk] at hkb
        obtain ⟨kn, kb⟩ := k
        dsimp only at hp HN hkb
        clear hat hc h1 h2 hdr HP htk hk
        cases kb
        · simp only [Bool.false_eq_true, if_false] at hp
          subst hp
          go_wp2_with fail
          refine (HN.out _).mono ?_
          rintro r w1 ⟨rfl, rfl⟩
          go_wp2_with fail
          refine bodyPost_ret (results_tmp3 rfl _ _ _) rfl ?_
          exact ⟨Below.refl _ _, FormPost.none kn rfl⟩
        · simp only [if_true] at hp
          have HP := Lib.hid hp
          have htk : (s.extract (j + 1) s.size).data.toList = l.drop (j + 1) := by rw [ext_end, HL0.out]
          have HSP := Lib.hid (fun W => rsplit_any (s.extract (j + 1) s.size) 42 W (by simp; omega))
          rw [htk] at HSP
          have hlen := splitT_len 42 (l.drop (j + 1))
          rw [List.length_drop] at hlen
          generalize splitT 42 (l.drop (j + 1)) = ps at HSP HP hlen
          have hpl : ps.length ≤ 101 := by omega
          have HPS := Lib.hid (show ∀ u ∈ ps, u.length ≤ 100 from fun u hu => by have := hlen.2 u hu; omega)
          have hj1 : (j : Int) + 1 ≤ (s.size : Int) := by omega
          clear hp htk hlen
          go_wp2_with fail
          refine (HN.out _).mono ?_
          rintro r w1 ⟨rfl, rfl⟩
          go_wp2_with fail
          refine (HSP.out _).mono ?_
          rintro r w3 ⟨hB, z, rfl, hown⟩
          obtain ⟨zg, za, zc, rfl, hrow⟩ := row_form hown
          have HB3 := Lib.hid hB
          have HROW := Lib.hid hrow
          clear hB hown hrow
          go_wp2_with fail
          go_loopg [9, 10] ps.length (fun g o i wr => ∃ (j2 : Nat) (done : List Fac) (z2 : Value), j2 + g = ps.length ∧ z2 = o ∧ i = .int .i64 j2 ∧ facsT (ps.take j2) = some done ∧ wr.ownsRow w3.heap.size 71 3 z2 j2 (fcV done) ∧ Below w3.heap.size w3 wr)
          case atStart => exact ⟨0, [], _, by omega, rfl, rfl, rfl, World.ownsRow_nil _ _ _ _, Below.refl _ _⟩
          case round =>
            obtain ⟨j2, done, z2, hg, rfl, rfl, hd, hown, hb⟩ := hrel
            have HG2 := Lib.hid hg
            have hj2 : j2 ≤ ps.length := by omega
            have HD := Lib.hid hd
            have HO := Lib.hid hown
            have HBW := Lib.hid hb
            have hszr := hb.size
            clear hg hd hown hb
            by_cases hlt2 : j2 < ps.length
            · have hi2 : (j2 : Int) < (ps.length : Int) := by omega
              have hi20 : (0 : Int) ≤ (j2 : Int) := by omega
              obtain ⟨rfl, hzg, hz⟩ := HROW.out (by omega)
              obtain ⟨u, hu⟩ : ∃ u, ps[j2]? = some u := ⟨_, List.getElem?_eq_getElem hlt2⟩
              obtain ⟨ub, hub⟩ : ∃ ub : ByteArray, (⟨u.toArray⟩ : ByteArray) = ub := ⟨_, rfl⟩
              have hud : u = ub.data.toList := by rw [← hub]
              have hul := HPS.out u (List.mem_of_getElem? hu)
              have hc0 : wr.cell? ⟨zg, j2, none⟩ = some (.string ub) := (HBW.out.cell (p := ⟨zg, j2, none⟩) hzg).trans (hz _ _ (by unfold strV; rw [List.getElem?_map, hu, ← hub]; rfl))
              have HF := Lib.hid (fun W => rfactor_any ub W (by show ub.data.toList.length ≤ 100; rw [← hud]; omega))
              rw [← hud] at HF
              have HU := Lib.hid hu
              have HLT2 := Lib.hid hlt2
              have hbnd : j2 + 1 ≤ 101 := by omega
              clear hu hub hud hul hlt2 hz
              cases hfu : facT u with
              | none =>
                rw [hfu] at HF
                have HNO := Lib.hid hfu
                clear hfu
                go_wp2_with fail
                refine (HF.out _).mono ?_
                rintro r w4 ⟨hB, f, hr⟩
                unfold FacV at hr
                subst hr
                have HB4 := Lib.hid (HB3.out.trans ((HBW.out.trans (hB.mono HBW.out.size)).mono HB3.out.size))
                clear hB
                go_wp2_with fail
                refine bodyPost_ret (results_tmp3 rfl _ _ _) rfl ?_
                refine ⟨HB4.out.alloc HB4.out.size _, FormPost.none 0 ?_⟩
                rw [← HP.out, facs_none _ _ (List.mem_of_getElem? HU.out) HNO.out]
                rfl
              | some f =>
                rw [hfu] at HF
                have HDN := Lib.hid (facs_snoc _ _ done f HD.out hfu)
                clear hfu
                go_wp2_with fail
                refine (HF.out _).mono ?_
                rintro r w4 ⟨hB, hr⟩
                replace hr : r = .returned (.tuple #[.agg #[.string ⟨f.u.toArray⟩, .int .i64 f.e, .bool f.g], .bool true]) := hr
                obtain ⟨fb, hfb⟩ : ∃ fb : ByteArray, (⟨f.u.toArray⟩ : ByteArray) = fb := ⟨_, rfl⟩
                rw [hfb] at hr
                have HFB := Lib.hid hfb
                subst hr
                have HO4 := Lib.hid (ownsRow_below HO.out hB)
                have HB4 := Lib.hid (HBW.out.trans (hB.mono HBW.out.size))
                clear hB hfb
                go_wp2_with (at_builtin; go_loud (refine wpList_append_new rfl (.tmp 63) (.tmp 65) 67 rfl w3.heap.size 71 i0 (.agg #[.string ⟨#[]⟩, .int .i64 0, .bool false]) 3 32 Tryd.underlying67 hinf hz0 hz1 hz2 rfl (by decide) _ _ _ rfl ((HO4.out.alloc _).alloc _) (w4.heap.size + 1) 1 [.string fb, .int .i64 f.e, .bool f.g] rfl rfl (fun l u hu => by rw [World.cell?_alloc2_new]; simpa using hu) (by simp [Value.oneCell']) (by unfold maxLen; omega) (by omega) (by have := HB4.out.size; simp; omega) ?_); intro v2 w6 ho2 hb2; have HO6 := Lib.hid ho2; have HB6 := Lib.hid (((HB4.out.alloc HB4.out.size _).alloc (by have := HB4.out.size; simp; omega) _).trans hb2); clear ho2 hb2)
                go_roundg (gk - 1)
                case measure => have := HG2.out; have := HLT2.out; omega
                case rel =>
                  refine ⟨j2 + 1, done ++ [f], _, by have := HG2.out; have := HLT2.out; omega, rfl, by go_num, ?_, ?_, HB6.out⟩
                  · rw [List.take_add_one, HU.out]; exact HDN.out
                  · rw [fcV_snoc, HFB.out]; exact HO6.out
            · have hi2 : ¬ (j2 : Int) < (ps.length : Int) := by omega
              have hall : ps.take j2 = ps := List.take_of_length_le (by omega)
              have hd2 := HD.out
              rw [hall] at hd2
              have hdl := facs_len _ _ hd2
              have HDL := Lib.hid (show j2 = done.length by omega)
              have HP2 := Lib.hid (show p = some (kn, done) by rw [← HP.out, hd2]; rfl)
              clear hall hd2 hdl
              go_wp2_with fail
              refine bodyPost_ret (results_tmp3 rfl _ _ _) rfl ?_
              refine ⟨HB3.out.trans (HBW.out.mono HB3.out.size), FormPost.some HP2.out ?_⟩
              have ho := ownsRow_lower HO.out (show w1.heap.size ≤ w3.heap.size from HB3.out.size)
              rw [HDL.out] at ho
              exact ho
      · have hx : (((s[j]'hlt).toNat : Int) == 32) = false := by
          rw [hc]
          simp only [beq_eq_false_iff_ne, ne_eq]
          intro e
          exact h32 (UInt8.toNat_inj.1 (by show c.toNat = 32; omega))
        clear hat hc
        go_wp2_with fail
        go_roundg (gk - 1)
        case measure => have := HG.out; have := HLT.out; omega
        case rel =>
          refine ⟨j + 1, by have := HG.out; have := HLT.out; omega, by go_num, ?_, rfl⟩
          rw [List.take_add_one, HAT.out]
          intro x hxm
          rw [List.mem_append] at hxm
          rcases hxm with hxm | hxm
          · exact HALL.out x hxm
          · simp at hxm
            rw [hxm]; exact h32
    · have hi : ¬ (j : Int) < (s.size : Int) := by omega
      have hje : ((j : Int) == (s.size : Int)) = true := by simp; omega
      obtain ⟨h1, h2⟩ := tw_take HALL.out (Or.inl (by omega))
      have hp := HP.out
      have hdr : l.drop j = [] := List.drop_eq_nil_of_le (by omega)
      rw [h1, h2, hdr] at hp
      have htk : (s.extract 0 j).data.toList = l.take j := by rw [ext_mid, HL0.out]; simp
      have HN := Lib.hid (fun W => rnum_any (s.extract 0 j) W (by simp; omega))
      rw [htk] at HN
      obtain ⟨k, hk⟩ : ∃ k, numT (l.take j) = k := ⟨_, rfl⟩
      rw [hk] at HN hp
      obtain ⟨kn, kb⟩ := k
      dsimp only at hp HN
      clear h1 h2 hdr HP htk hk
      cases kb
      · simp only [Bool.false_eq_true, if_false] at hp
        subst hp
        go_wp2_with fail
        refine (HN.out _).mono ?_
        rintro r w1 ⟨rfl, rfl⟩
        go_wp2_with fail
        refine bodyPost_ret (results_tmp3 rfl _ _ _) rfl ?_
        exact ⟨Below.refl _ _, FormPost.none kn rfl⟩
      · simp only [if_true] at hp
        have HP := Lib.hid hp
        go_wp2_with fail
        refine (HN.out _).mono ?_
        rintro r w1 ⟨rfl, rfl⟩
        go_wp2_with fail
        refine bodyPost_ret (results_tmp3 rfl _ _ _) rfl ?_
        exact ⟨Below.refl _ _, FormPost.some HP.out.symm (World.ownsRow_nil _ _ _ _)⟩
end U
end Go.Proofs.YthcehhonahgfmaaDoor
