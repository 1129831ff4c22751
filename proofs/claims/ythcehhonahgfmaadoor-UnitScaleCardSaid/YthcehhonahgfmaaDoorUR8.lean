/-
  Contracts of the specification's letters and factor.
-/
import Derived.Test.YthcehhonahgfmaaDoorUR6
import Derived.Test.YthcehhonahgfmaaDoorUR7
import Derived.Test.YthcehhonahgfmaaDoorUP10
namespace Go.Proofs.YthcehhonahgfmaaDoor
open Go.RowKit
namespace U
open H
set_option linter.unusedVariables false
set_option maxRecDepth 100000
set_option maxHeartbeats 1000000 in
theorem rletters_any (s : ByteArray) (w : World) (hs : s.size ≤ 100) :
    Calls Tryd.prog 82 #[.string s] w fun r w' => r = .returned (.bool (lets s.data.toList)) ∧ w' = w := by
  have hem : s.toList.isEmpty = s.data.toList.isEmpty := by rw [ByteArray.toList_eq]
  go_enter Tryd.func82, Tryd.ntmps82
  go_wp2_with fail
  go_loopg [3] s.size (fun g i wr => ∃ j : Nat, j + g = s.size ∧ i = .int .i64 j ∧ (s.data.toList.take j).all isLet = true ∧ wr = w)
  case atStart => exact ⟨0, by omega, rfl, by simp, rfl⟩
  case round =>
    obtain ⟨j, hg, rfl, hall, rfl⟩ := hrel
    have HG := Lib.hid hg
    have HALL := Lib.hid hall
    have hj : j ≤ s.size := by omega
    clear hg hall
    by_cases hlt : j < s.size
    · have hi : (j : Int) < (s.size : Int) := by omega
      have hi0 : (0 : Int) ≤ (j : Int) := by omega
      have hat := byte_at hlt
      obtain ⟨c, hc⟩ : ∃ c, s[j] = c := ⟨_, rfl⟩
      rw [hc] at hat
      have HLT := Lib.hid hlt
      have HC := Lib.hid hc
      have HAT := Lib.hid hat
      clear hat hc
      by_cases h1 : isLet c = true
      · have HL := Lib.hid h1
        have h2 : (97 ≤ c.toNat ∧ c.toNat ≤ 122) ∨ (65 ≤ c.toNat ∧ c.toNat ≤ 90) := by simpa [isLet] using h1
        rcases h2 with h2 | h2
        · have hx1 : (((s[j]'hlt).toNat : Int) < 97) = False := by rw [HC.out]; simp; omega
          have hx2 : ((122 : Int) < ((s[j]'hlt).toNat : Int)) = False := by rw [HC.out]; simp; omega
          clear h1 h2
          go_wp2_with fail
          go_roundg (gk - 1)
          case measure => have := HG.out; have := HLT.out; omega
          case rel => exact ⟨j + 1, by have := HG.out; have := HLT.out; omega, by go_num, by rw [take_all _ HAT.out, HALL.out, HL.out]; rfl, rfl⟩
        · have hx1 : (((s[j]'hlt).toNat : Int) < 97) = True := by rw [HC.out]; simp; omega
          have hx3 : (((s[j]'hlt).toNat : Int) < 65) = False := by rw [HC.out]; simp; omega
          have hx4 : ((90 : Int) < ((s[j]'hlt).toNat : Int)) = False := by rw [HC.out]; simp; omega
          clear h1 h2
          go_wp2_with fail
          go_roundg (gk - 1)
          case measure => have := HG.out; have := HLT.out; omega
          case rel => exact ⟨j + 1, by have := HG.out; have := HLT.out; omega, by go_num, by rw [take_all _ HAT.out, HALL.out, HL.out]; rfl, rfl⟩
      · have HL := Lib.hid (show isLet c = false by simpa using h1)
        have h2 : ¬ ((97 ≤ c.toNat ∧ c.toNat ≤ 122) ∨ (65 ≤ c.toNat ∧ c.toNat ≤ 90)) := by simpa [isLet] using h1
        by_cases h3 : c.toNat < 65
        · have hx1 : (((s[j]'hlt).toNat : Int) < 97) = True := by rw [HC.out]; simp; omega
          have hx3 : (((s[j]'hlt).toNat : Int) < 65) = True := by rw [HC.out]; simp; omega
          clear h1 h2 h3
          go_wp2_with fail
          go_ret
          exact ⟨by unfold lets; rw [all_false HAT.out HL.out]; rfl, rfl⟩
        · have hx3 : (((s[j]'hlt).toNat : Int) < 65) = False := by rw [HC.out]; simp; omega
          have hx4 : ((90 : Int) < ((s[j]'hlt).toNat : Int)) = True := by rw [HC.out]; simp; omega
          by_cases h4 : c.toNat < 97
          · have hx1 : (((s[j]'hlt).toNat : Int) < 97) = True := by rw [HC.out]; simp; omega
            clear h1 h2 h3 h4
            go_wp2_with fail
            go_ret
            exact ⟨by unfold lets; rw [all_false HAT.out HL.out]; rfl, rfl⟩
          · have hx1 : (((s[j]'hlt).toNat : Int) < 97) = False := by rw [HC.out]; simp; omega
            have hx2 : ((122 : Int) < ((s[j]'hlt).toNat : Int)) = True := by rw [HC.out]; simp; omega
            clear h1 h2 h3 h4
            go_wp2_with fail
            go_ret
            exact ⟨by unfold lets; rw [all_false HAT.out HL.out]; rfl, rfl⟩
    · have hi : ¬ (j : Int) < (s.size : Int) := by omega
      have HL := Lib.hid (show lets s.data.toList = !s.data.toList.isEmpty by
        have h1 : s.data.toList.take j = s.data.toList := List.take_of_length_le (by show s.size ≤ j; omega)
        have h2 := HALL.out
        rw [h1] at h2
        unfold lets
        rw [h2]
        rfl)
      have HEM := Lib.hid hem
      clear hem
      go_wp2_with fail
      go_ret
      refine ⟨?_, rfl⟩
      rw [HL.out, ← HEM.out]
      rfl
def FacV (f : Fac) : Array Value := #[.string ⟨f.u.toArray⟩, .int .i64 f.e, .bool f.g]
/-- What factor answers. -/
def FacPost (p : Option Fac) (r : Ending) : Prop :=
  match p with
  | none => ∃ f : Fac, r = .returned (.tuple #[.agg (FacV f), .bool false])
  | some f => r = .returned (.tuple #[.agg (FacV f), .bool true])
theorem sizeF : (Tryd.prog.info? 71).map (·.size) = some 3 := by kernel_rfl
theorem one3 (a : ByteArray) (b : Int) (c : Bool) : (#[Value.string a, .int .i64 b, .bool c].all (·.oneCell')) = true := by simp [Value.oneCell']
set_option maxHeartbeats 1000000 in
theorem rfactor_any (s : ByteArray) (w : World) (hs : s.size ≤ 100) :
    Calls Tryd.prog 72 #[.string s] w fun r w' => Below w.heap.size w w' ∧ FacPost (facT s.data.toList) r := by
  have HSP := Lib.hid (fun W => rsplit_any s 94 W hs)
  have HRES := Lib.hid (heap_alloc_new w (.cells #[.string ⟨#[]⟩, .int .i64 0, .bool false] 71))
  have HB0 := Lib.hid ((Below.refl w.heap.size w).alloc (Nat.le_refl _) (.cells #[.string ⟨#[]⟩, .int .i64 0, .bool false] 71))
  obtain ⟨p, hp⟩ : ∃ p, facT s.data.toList = p := ⟨_, rfl⟩
  rw [hp]
  unfold facT at hp
  have hlen := splitT_len 94 s.data.toList
  have hsl : s.data.toList.length = s.size := rfl
  have hne := splitT_ne 94 s.data.toList
  generalize splitT 94 s.data.toList = ps at HSP hp hlen hne
  match ps, hne with
  | [u], _ =>
    dsimp only at hp
    have hul := hlen.2 u (by simp)
    obtain ⟨ub, hub⟩ : ∃ ub : ByteArray, (⟨u.toArray⟩ : ByteArray) = ub := ⟨_, rfl⟩
    have hud : u = ub.data.toList := by rw [← hub]
    have HL := Lib.hid (fun W => rletters_any ub W (by show ub.data.toList.length ≤ 100; rw [← hud]; omega))
    rw [← hud] at HL
    have HUB := Lib.hid hub
    have hc0 : (strV [u])[0]? = some (.string ub) := by show some (Value.string ⟨u.toArray⟩) = _; rw [hub]
    obtain ⟨P1, hP1⟩ : ∃ P1, strV [u] = P1 := ⟨_, rfl⟩
    rw [hP1] at HSP hc0
    change Hid (∀ W, Calls _ _ _ W fun r w' => Below W.heap.size W w' ∧ ∃ z, r = .returned z ∧ w'.ownsRow W.heap.size 9 1 z 1 P1) at HSP
    clear hlen hub hud hul hsl hP1
    cases hlu : lets u
    · rw [hlu] at HL hp
      simp only [Bool.false_eq_true, if_false] at hp
      subst hp
      clear hlu
      go_enter Tryd.func72, Tryd.ntmps72
      go_wp2_with fail
      refine (HSP.out _).mono ?_
      rintro r w1 ⟨hB, z, rfl, hown⟩
      obtain ⟨zg, za, zc, rfl, hrow⟩ := row_form hown
      have HRES1 := Lib.hid ((hB.block w.heap.size (by simp)).trans HRES.out)
      have HB1 := Lib.hid (HB0.out.trans (hB.mono HB0.out.size))
      have hc0w := (hrow (by omega)).2.2 _ _ hc0
      obtain rfl := (hrow (by omega)).1
      clear hB hown hrow hc0
      go_wp2_with fail
      refine (HL.out _).mono ?_
      rintro r w2 ⟨rfl, rfl⟩
      go_wp2_with (refine wpList_store_row rfl 71 _ _ rfl w.heap.size #[.string ⟨#[]⟩, .int .i64 0, .bool false] rfl rfl 71 _ HRES1.out sizeF rfl (one3 _ _ _) ?_)
      refine bodyPost_ret (v := .tuple #[.agg #[.string ⟨#[]⟩, .int .i64 0, .bool false], .bool false]) (results_row_tmp (ty := 71) rfl _ _ w.heap.size 71 #[.string ⟨#[]⟩, .int .i64 0, .bool false] (0, 0) _ _ rfl rfl (setRow_heap _ _ _ _ _ _ HRES1.out) Tryd.underlying71 rfl sizeF) rfl ⟨below_setRow HB1.out (Nat.le_refl _) _, ?_⟩
      exact ⟨⟨[], 0, false⟩, rfl⟩
    · rw [hlu] at HL hp
      simp only [if_true] at hp
      subst hp
      clear hlu
      go_enter Tryd.func72, Tryd.ntmps72
      go_wp2_with fail
      refine (HSP.out _).mono ?_
      rintro r w1 ⟨hB, z, rfl, hown⟩
      obtain ⟨zg, za, zc, rfl, hrow⟩ := row_form hown
      have HRES1 := Lib.hid ((hB.block w.heap.size (by simp)).trans HRES.out)
      have HB1 := Lib.hid (HB0.out.trans (hB.mono HB0.out.size))
      have hc0w := (hrow (by omega)).2.2 _ _ hc0
      obtain rfl := (hrow (by omega)).1
      clear hB hown hrow hc0
      go_wp2_with fail
      refine (HL.out _).mono ?_
      rintro r w2 ⟨rfl, rfl⟩
      go_wp2_with (refine wpList_store_row rfl 71 _ _ rfl w.heap.size #[.string ub, .int .i64 1, .bool false] rfl rfl 71 _ HRES1.out sizeF rfl (one3 _ _ _) ?_)
      refine bodyPost_ret (v := .tuple #[.agg #[.string ub, .int .i64 1, .bool false], .bool true]) (results_row_tmp (ty := 71) rfl _ _ w.heap.size 71 #[.string ub, .int .i64 1, .bool false] (0, 0) _ _ rfl rfl (setRow_heap _ _ _ _ _ _ HRES1.out) Tryd.underlying71 rfl sizeF) rfl ⟨below_setRow HB1.out (Nat.le_refl _) _, ?_⟩
      show _ = Ending.returned (Value.tuple #[.agg #[.string ⟨u.toArray⟩, .int .i64 1, .bool false], .bool true])
      rw [HUB.out]
  | [u, e], _ =>
    dsimp only at hp
    have hul := hlen.2 u (by simp)
    have hel := hlen.2 e (by simp)
    obtain ⟨ub, hub⟩ : ∃ ub : ByteArray, (⟨u.toArray⟩ : ByteArray) = ub := ⟨_, rfl⟩
    have hud : u = ub.data.toList := by rw [← hub]
    have HL := Lib.hid (fun W => rletters_any ub W (by show ub.data.toList.length ≤ 100; rw [← hud]; omega))
    rw [← hud] at HL
    have HUB := Lib.hid hub
    obtain ⟨eb, heb⟩ : ∃ eb : ByteArray, (⟨e.toArray⟩ : ByteArray) = eb := ⟨_, rfl⟩
    have hed : e = eb.data.toList := by rw [← heb]
    have HN := Lib.hid (fun W => rnum_any eb W (by show eb.data.toList.length ≤ 100; rw [← hed]; omega))
    rw [← hed] at HN
    have hc0 : (strV [u, e])[0]? = some (.string ub) := by show some (Value.string ⟨u.toArray⟩) = _; rw [hub]
    have hc1 : (strV [u, e])[1]? = some (.string eb) := by show some (Value.string ⟨e.toArray⟩) = _; rw [heb]
    obtain ⟨P1, hP1⟩ : ∃ P1, strV [u, e] = P1 := ⟨_, rfl⟩
    rw [hP1] at HSP hc0 hc1
    change Hid (∀ W, Calls _ _ _ W fun r w' => Below W.heap.size W w' ∧ ∃ z, r = .returned z ∧ w'.ownsRow W.heap.size 9 1 z 2 P1) at HSP
    clear hlen hub hud hul hsl hP1 heb hed hel
    cases hlu : lets u
    · rw [hlu] at HL hp
      simp only [Bool.false_and, Bool.false_eq_true, if_false] at hp
      subst hp
      clear hlu
      go_enter Tryd.func72, Tryd.ntmps72
      go_wp2_with fail
      refine (HSP.out _).mono ?_
      rintro r w1 ⟨hB, z, rfl, hown⟩
      obtain ⟨zg, za, zc, rfl, hrow⟩ := row_form hown
      have HRES1 := Lib.hid ((hB.block w.heap.size (by simp)).trans HRES.out)
      have HB1 := Lib.hid (HB0.out.trans (hB.mono HB0.out.size))
      have hc0w := (hrow (by omega)).2.2 _ _ hc0
      obtain rfl := (hrow (by omega)).1
      clear hB hown hrow hc0 hc1
      go_wp2_with fail
      refine (HL.out _).mono ?_
      rintro r w2 ⟨rfl, rfl⟩
      go_wp2_with (refine wpList_store_row rfl 71 _ _ rfl w.heap.size #[.string ⟨#[]⟩, .int .i64 0, .bool false] rfl rfl 71 _ HRES1.out sizeF rfl (one3 _ _ _) ?_)
      refine bodyPost_ret (v := .tuple #[.agg #[.string ⟨#[]⟩, .int .i64 0, .bool false], .bool false]) (results_row_tmp (ty := 71) rfl _ _ w.heap.size 71 #[.string ⟨#[]⟩, .int .i64 0, .bool false] (0, 0) _ _ rfl rfl (setRow_heap _ _ _ _ _ _ HRES1.out) Tryd.underlying71 rfl sizeF) rfl ⟨below_setRow HB1.out (Nat.le_refl _) _, ?_⟩
      exact ⟨⟨[], 0, false⟩, rfl⟩
    · rw [hlu] at HL hp
      simp only [Bool.true_and] at hp
      clear hlu
      obtain ⟨k, hk⟩ : ∃ k, numT e = k := ⟨_, rfl⟩
      rw [hk] at HN hp
      obtain ⟨kn, kb⟩ := k
      dsimp only at HN hp
      have HP := Lib.hid hp
      clear hk hp
      go_enter Tryd.func72, Tryd.ntmps72
      go_wp2_with fail
      refine (HSP.out _).mono ?_
      rintro r w1 ⟨hB, z, rfl, hown⟩
      obtain ⟨zg, za, zc, rfl, hrow⟩ := row_form hown
      have HRES1 := Lib.hid ((hB.block w.heap.size (by simp)).trans HRES.out)
      have HB1 := Lib.hid (HB0.out.trans (hB.mono HB0.out.size))
      have hc0w := (hrow (by omega)).2.2 _ _ hc0
      have hc1w := (hrow (by omega)).2.2 _ _ hc1
      obtain rfl := (hrow (by omega)).1
      clear hB hown hrow hc0 hc1
      go_wp2_with fail
      refine (HL.out _).mono ?_
      rintro r w2 ⟨rfl, rfl⟩
      go_wp2_with fail
      refine (HN.out _).mono ?_
      rintro r w3 ⟨rfl, rfl⟩
      go_wp2_with (refine wpList_store_row rfl 71 _ _ rfl w.heap.size #[.string ub, .int .i64 kn, .bool true] rfl rfl 71 _ HRES1.out sizeF rfl (one3 _ _ _) ?_)
      refine bodyPost_ret (v := .tuple #[.agg #[.string ub, .int .i64 kn, .bool true], .bool kb]) (results_row_tmp (ty := 71) rfl _ _ w.heap.size 71 #[.string ub, .int .i64 kn, .bool true] (0, 0) _ _ rfl rfl (setRow_heap _ _ _ _ _ _ HRES1.out) Tryd.underlying71 rfl sizeF) rfl ⟨below_setRow HB1.out (Nat.le_refl _) _, ?_⟩
      rw [← HP.out]
      cases kb
      · exact ⟨⟨u, kn, true⟩, by show _ = Ending.returned (Value.tuple #[.agg #[.string ⟨u.toArray⟩, .int .i64 kn, .bool true], .bool false]); rw [HUB.out]⟩
      · show _ = Ending.returned (Value.tuple #[.agg #[.string ⟨u.toArray⟩, .int .i64 kn, .bool true], .bool true])
        rw [HUB.out]
  | u :: a :: b :: t, _ =>
    dsimp only at hp
    subst hp
    have hl3 : (2 : Int) < ((u :: a :: b :: t).length : Int) := by simp; omega
    generalize hps : u :: a :: b :: t = ps at HSP hl3
    clear hps hlen
    go_enter Tryd.func72, Tryd.ntmps72
    go_wp2_with fail
    refine (HSP.out _).mono ?_
    rintro r w1 ⟨hB, z, rfl, hown⟩
    obtain ⟨zg, za, zc, rfl, hrow⟩ := row_form hown
    have HRES1 := Lib.hid ((hB.block w.heap.size (by simp)).trans HRES.out)
    have HB1 := Lib.hid (HB0.out.trans (hB.mono HB0.out.size))
    clear hB hown
    go_wp2_with (refine wpList_store_row rfl 71 _ _ rfl w.heap.size #[.string ⟨#[]⟩, .int .i64 0, .bool false] rfl rfl 71 _ HRES1.out sizeF rfl (one3 _ _ _) ?_)
    refine bodyPost_ret (v := .tuple #[.agg #[.string ⟨#[]⟩, .int .i64 0, .bool false], .bool false]) (results_row_tmp (ty := 71) rfl _ _ w.heap.size 71 #[.string ⟨#[]⟩, .int .i64 0, .bool false] (0, 0) _ _ rfl rfl (setRow_heap _ _ _ _ _ _ HRES1.out) Tryd.underlying71 rfl sizeF) rfl ⟨below_setRow HB1.out (Nat.le_refl _) _, ?_⟩
    exact ⟨⟨[], 0, false⟩, rfl⟩
end U
end Go.Proofs.YthcehhonahgfmaaDoor
