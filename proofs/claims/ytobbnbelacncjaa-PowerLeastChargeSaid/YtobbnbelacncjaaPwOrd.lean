/-
  The specification's Order.
-/
import Derived.Test.YtobbnbelacncjaaPwRow
import Derived.Test.YtobbnbelacncjaaPwR1
namespace Go.Proofs.Ytobbnbelacncjaa
open Go.RowKit
namespace Pw
open H
set_option linter.unusedVariables false
set_option linter.unusedSimpArgs false
set_option maxRecDepth 100000
theorem own_shape4 {W : World} {b n : Nat} {e : TypeId} {v : Value} {xs : List Value} (h : W.ownsRow b e 4 v n xs) : ∃ A c, v = .slice A n c := by
  obtain ⟨_, ⟨rfl, rfl⟩ | ⟨g, c, cur, rfl, _⟩⟩ := h
  · exact ⟨none, 0, rfl⟩
  · exact ⟨_, c, rfl⟩
theorem cells4_new (W : World) (x : Ld) : ∀ j u, (cells4 x)[j]? = some u → (W.alloc (.cells #[.int .i64 x.id, .int .i64 x.pow, .int .i64 x.pri, .bool x.ess] 41)).cell? ⟨W.heap.size, j, none⟩ = some u := by
  intro j u hu
  rw [cell_top]
  have h : (cells4 x).toArray[j]? = some u := by rw [List.getElem?_toArray]; exact hu
  exact h
theorem swap_eq (P R : List Ld) (x y : Ld) : ((P ++ [y] ++ x :: R).set (P.length + 1) y).set P.length x = P ++ x :: y :: R := by
  rw [List.append_assoc, List.set_append_right _ _ (by omega), List.set_append_right _ _ (by omega)]
  simp
theorem mem_x (P R : List Ld) (x : Ld) : (P ++ x :: R)[P.length]? = some x := by simp
theorem mem_y (P R : List Ld) (x y : Ld) : (P ++ [y] ++ x :: R)[P.length]? = some y := by simp
set_option maxHeartbeats 8000000 in
theorem rorder_any (T : List Ld) (A : Option Addr) (cap B : Nat) (w : World) (hB : B ≤ w.heap.size) (hlen : T.length ≤ 1000) (hR : RdsLd w B A T) :
    Calls Try.prog 41 #[.slice A T.length cap] w fun e w' => ∃ v, e = .returned v ∧ w'.ownsRow w.heap.size 41 4 v (ord T).length (flat4 (ord T)) ∧ Below w.heap.size w w' := by
  obtain ⟨i0, hi, hz0, hz1, hz2⟩ := info_parts infoL
  have HBF := Lib.hid (fun a b W => rbefore_any a b W)
  have HR := Lib.hid hR
  have HGET := Lib.hid (fun k (hk : k < T.length) => (⟨T[k], List.getElem?_eq_getElem hk⟩ : ∃ x, T[k]? = some x))
  have HST := Lib.hid (fun i x (h : T[i]? = some x) => ord_step h)
  have HLN : Hid (∀ i, (ord (T.take i)).length ≤ 1000) := Lib.hid (fun i => by rw [ord_len, List.length_take]; omega)
  have HALL : Hid (ord (T.take T.length) = ord T) := Lib.hid (by rw [List.take_length])
  have H0 : Hid (ord (T.take 0) = []) := Lib.hid rfl
  clear hR
  generalize T.length = len at *
  generalize ord T = res at *
  go_enter Try.func41, Try.ntmps41
  go_wp2_with fail
  go_loopg [3, 4] len (fun g s i wr => ∃ q : Nat, q + g = len ∧ i = .int .i64 (q : Nat) ∧ wr.ownsRow w.heap.size 41 4 s (ord (T.take q)).length (flat4 (ord (T.take q))) ∧ Below w.heap.size w wr)
  case atStart => exact ⟨0, Nat.zero_add _, rfl, by rw [H0.out]; exact World.ownsRow_nil _ _ _ _, Below.refl _ _⟩
  case round =>
    obtain ⟨q, hg, rfl, hO, hB2⟩ := hrel
    have BEL := Lib.hid hB2
    have HG := Lib.hid hg
    have HO := Lib.hid hO
    have hqn : q ≤ len := by omega
    clear hg hB2
    by_cases hlt : q < len
    · have HLT := Lib.hid hlt
      have hqi : (q : Int) < (len : Int) := by omega
      obtain ⟨x, hx⟩ := HGET.out q hlt
      obtain ⟨ad, rfl, had, hr⟩ := HR.out.below (BEL.out.mono hB) q x hx
      have c0 := hr.c0
      have c1 := hr.c1
      have c2 := hr.c2
      have c3 := hr.c3
      have HSX := Lib.hid (HST.out q x hx)
      have hln := HLN.out q
      obtain ⟨A3, k3, rfl⟩ := own_shape4 hO
      obtain ⟨g2, hg2e⟩ : ∃ g2, g2 = gk := ⟨_, rfl⟩
      have HGG : Hid (q + g2 = len) := Lib.hid (by rw [hg2e]; exact HG.out)
      have HGE := Lib.hid hg2e
      clear hr hx had hlt hO hg2e HG
      generalize ord (T.take q) = O at *
      go_upto_region 7 with (at_builtin; refine wpList_append_new rfl (.tmp 15) (.tmp 20) 24 rfl w.heap.size 41 i0 (.agg #[.int .i64 0, .int .i64 0, .int .i64 0, .bool false]) 4 32 Try.underlying24 hi hz0 hz1 hz2 rfl (by decide) (.slice A3 O.length k3) O.length (flat4 O) rfl (ownsRow_below HO.out (bel1 wr _)) wr.heap.size 1 (cells4 x) rfl rfl (cells4_new wr x) (cells4_one x) (by unfold maxLen; omega) (by omega) (by have := BEL.out.size; simp; omega) ?_; intro v2 w5 ho2 hB5; have HO2 := Lib.hid ho2; have HB5 := Lib.hid hB5; clear ho2 hB5)
      have BW5 := Lib.hid ((BEL.out.trans ((bel1 wr (.cells #[.int .i64 x.id, .int .i64 x.pow, .int .i64 x.pri, .bool x.ess] 41)).mono BEL.out.size)).trans HB5.out)
      obtain ⟨g, c, rfl, hol⟩ := own_l (L := O ++ [x]) (by rw [flat4_snoc]; exact HO2.out) (by simp) (by omega)
      have HOL := Lib.hid hol
      obtain ⟨m, hm⟩ : ∃ m, m = (O ++ [x]).length := ⟨_, rfl⟩
      have HMM : Hid (O.length + 1 = m) := Lib.hid (by rw [hm]; simp)
      rw [← hm]
      have hmc : m ≤ c := by rw [hm]; exact hol.2.1
      clear hol hm HO2 HB5 c0 c1 c2 c3
      go_loopg [5] O.length (fun gh s5 wr2 => ∃ P R : List Ld, s5 = .int .i64 (P.length : Nat) ∧ P.length = gh ∧ P.length + 1 + R.length = m ∧ OwnL wr2 w.heap.size g c (P ++ x :: R) ∧ Hid (insL O x = insL P x ++ R) ∧ Below w.heap.size w wr2)
      case atStart => exact ⟨O, [], rfl, rfl, by have := HMM.out; simp; omega, HOL.out, Lib.hid (by simp), BW5.out⟩
      case round =>
        clear HOL BW5 BEL HO
        obtain ⟨P, R, rfl, hgk, hpm, hol, HI, hB7⟩ := hrel
        have BEL := Lib.hid hB7
        have HOL := Lib.hid hol
        have HGK := Lib.hid hgk
        clear hB7 hgk
        rcases List.eq_nil_or_concat P with rfl | ⟨P', y, hP⟩
        · have hr0 := hol.row
          have HFI : Hid (wr.ownsRow w.heap.size 41 4 (.slice (some ⟨g, 0, none⟩) m c) (ord (T.take (q + 1))).length (flat4 (ord (T.take (q + 1))))) := Lib.hid (by
            rw [HSX.out, HI.out, insL_nil]
            have hl : (x :: R).length = m := by simp at hpm ⊢; omega
            have hr1 : wr.ownsRow w.heap.size 41 4 (.slice (some ⟨g, 0, none⟩) (x :: R).length c) (x :: R).length (flat4 (x :: R)) := hr0
            rw [hl] at hr1
            show wr.ownsRow w.heap.size 41 4 (.slice (some ⟨g, 0, none⟩) m c) (x :: R).length (flat4 (x :: R))
            rw [hl]
            exact hr1)
          clear hol hpm hr0
          rw [show ((([] : List Ld).length : Nat) : Int) = 0 from rfl]
          go_upto_region 7 with fail
          refine wp_region_held_drew (S := fun _ => True) (by kernel_rfl) trivial (fun hHeld => ?_)
          refine wpAnyH_take (i := 0) (oi := { dst := some 22, op := _, type := _, pos := _, after := _, guard := _ }) (v := ?_) rfl (by kernel_rfl) (by kernel_rfl) (by kernel_rfl) (fun _ _ _ h => h) (Or.inl ⟨by rfl, ?_⟩) (by assumption) ?_
          rotate_left
          · (intro w hSw; (try dsimp only at hSw); go_simp)
            first | done | with_reducible rfl
          try simp only [Act.put, List.setIfInBounds_toArray, List.set_cons_zero, List.set_cons_succ]
          refine wpAnyH_take (i := 1) (oi := { dst := some 23, op := _, type := _, pos := _, after := _, guard := _ }) (v := ?_) rfl (by kernel_rfl) (by kernel_rfl) (by kernel_rfl) (fun _ _ _ h => h) (Or.inl ⟨by rfl, ?_⟩) (by assumption) ?_
          rotate_left
          · (intro w hSw; (try dsimp only at hSw); go_simp)
            first | done | with_reducible rfl
          try simp only [Act.put, List.setIfInBounds_toArray, List.set_cons_zero, List.set_cons_succ]
          refine wpAnyH_take (i := 2) (oi := { dst := some 24, op := _, type := _, pos := _, after := _, guard := _ }) (v := ?_) rfl (by kernel_rfl) (by kernel_rfl) (by kernel_rfl) (fun _ _ _ h => h) (Or.inl ⟨by rfl, ?_⟩) (by assumption) ?_
          rotate_left
          · (intro w hSw; (try dsimp only at hSw); go_simp)
            first | done | with_reducible rfl
          try simp only [Act.put, List.setIfInBounds_toArray, List.set_cons_zero, List.set_cons_succ]
          refine wpAnyH_take (i := 3) (oi := { dst := some 25, op := _, type := _, pos := _, after := _, guard := _ }) (v := undef) rfl (by kernel_rfl) (by kernel_rfl) (by kernel_rfl) (fun _ _ _ h => h) (Or.inr ⟨by rfl, rfl⟩) (by assumption) ?_
          try simp only [Act.put, List.setIfInBounds_toArray, List.set_cons_zero, List.set_cons_succ]
          refine wpAnyH_take (i := 4) (oi := { dst := some 26, op := _, type := _, pos := _, after := _, guard := _ }) (v := undef) rfl (by kernel_rfl) (by kernel_rfl) (by kernel_rfl) (fun _ _ _ h => h) (Or.inr ⟨by rfl, rfl⟩) (by assumption) ?_
          try simp only [Act.put, List.setIfInBounds_toArray, List.set_cons_zero, List.set_cons_succ]
          refine wpAnyH_take (i := 5) (oi := { dst := some 27, op := _, type := _, pos := _, after := _, guard := _ }) (v := undef) rfl (by kernel_rfl) (by kernel_rfl) (by kernel_rfl) (fun _ _ _ h => h) (Or.inr ⟨by rfl, rfl⟩) (by assumption) ?_
          try simp only [Act.put, List.setIfInBounds_toArray, List.set_cons_zero, List.set_cons_succ]
          refine wpAnyH_take (i := 6) (oi := { dst := some 28, op := _, type := _, pos := _, after := _, guard := _ }) (v := undef) rfl (by kernel_rfl) (by kernel_rfl) (by kernel_rfl) (fun _ _ _ h => h) (Or.inr ⟨by rfl, rfl⟩) (by assumption) ?_
          try simp only [Act.put, List.setIfInBounds_toArray, List.set_cons_zero, List.set_cons_succ]
          refine wpAnyH_take (i := 7) (oi := { dst := some 29, op := _, type := _, pos := _, after := _, guard := _ }) (v := undef) rfl (by kernel_rfl) (by kernel_rfl) (by kernel_rfl) (fun _ _ _ h => h) (Or.inr ⟨by rfl, rfl⟩) (by assumption) ?_
          try simp only [Act.put, List.setIfInBounds_toArray, List.set_cons_zero, List.set_cons_succ]
          refine wpAnyH_take (i := 8) (oi := { dst := some 30, op := _, type := _, pos := _, after := _, guard := _ }) (v := undef) rfl (by kernel_rfl) (by kernel_rfl) (by kernel_rfl) (fun _ _ _ h => h) (Or.inr ⟨by rfl, rfl⟩) (by assumption) ?_
          try simp only [Act.put, List.setIfInBounds_toArray, List.set_cons_zero, List.set_cons_succ]
          refine wpAnyH_take (i := 9) (oi := { dst := some 31, op := _, type := _, pos := _, after := _, guard := _ }) (v := undef) rfl (by kernel_rfl) (by kernel_rfl) (by kernel_rfl) (fun _ _ _ h => h) (Or.inr ⟨by rfl, rfl⟩) (by assumption) ?_
          try simp only [Act.put, List.setIfInBounds_toArray, List.set_cons_zero, List.set_cons_succ]
          refine wpAnyH_take (i := 10) (oi := { dst := some 32, op := _, type := _, pos := _, after := _, guard := _ }) (v := undef) rfl (by kernel_rfl) (by kernel_rfl) (by kernel_rfl) (fun _ _ _ h => h) (Or.inr ⟨by rfl, rfl⟩) (by assumption) ?_
          try simp only [Act.put, List.setIfInBounds_toArray, List.set_cons_zero, List.set_cons_succ]
          refine wpAnyH_take (i := 11) (oi := { dst := some 33, op := _, type := _, pos := _, after := _, guard := _ }) (v := undef) rfl (by kernel_rfl) (by kernel_rfl) (by kernel_rfl) (fun _ _ _ h => h) (Or.inr ⟨by rfl, rfl⟩) (by assumption) ?_
          try simp only [Act.put, List.setIfInBounds_toArray, List.set_cons_zero, List.set_cons_succ]
          refine wpAnyH_take (i := 12) (oi := { dst := some 34, op := _, type := _, pos := _, after := _, guard := _ }) (v := undef) rfl (by kernel_rfl) (by kernel_rfl) (by kernel_rfl) (fun _ _ _ h => h) (Or.inr ⟨by rfl, rfl⟩) (by assumption) ?_
          try simp only [Act.put, List.setIfInBounds_toArray, List.set_cons_zero, List.set_cons_succ]
          refine wpAnyH_take (i := 13) (oi := { dst := some 35, op := _, type := _, pos := _, after := _, guard := _ }) (v := ?_) rfl (by kernel_rfl) (by kernel_rfl) (by kernel_rfl) (fun _ _ _ h => h) (Or.inl ⟨by rfl, ?_⟩) (by assumption) ?_
          rotate_left
          · (intro w hSw; (try dsimp only at hSw); go_simp)
            first | done | with_reducible rfl
          try simp only [Act.put, List.setIfInBounds_toArray, List.set_cons_zero, List.set_cons_succ]
          refine wpAnyH_done (by kernel_rfl) ?_ _
          go_wp2_with fail
          go_roundg (g2 - 1)
          case measure => have := HGG.out; have := HGE.out; have := HLT.out; omega
          case rel => exact ⟨q + 1, by have := HGG.out; have := HLT.out; omega, by go_num, ownsRow_below HFI.out (below_drew _), BEL.out.drew⟩
        · obtain ⟨k', hk'⟩ : ∃ k', k' = P'.length := ⟨_, rfl⟩
          obtain ⟨kk, hkk⟩ : ∃ kk, kk = k' + 1 := ⟨_, rfl⟩
          have hP2 : P = P' ++ [y] := by rw [hP]; simp
          have hPl : P.length = kk := by rw [hP2]; simp; omega
          rw [hPl]
          have hx := hol.rd (k := kk) (x := x) (by rw [← hPl]; exact mem_x P R x)
          have hy := hol.rd (k := k') (x := y) (by rw [hk', hP2]; exact mem_y P' R x y)
          have hfz := hol.fz
          obtain ⟨x0, x1, x2, x3⟩ := hx
          obtain ⟨y0, y1, y2, y3⟩ := hy
          have p1 : kk < m := by omega
          have p2 : k' < m := by omega
          have q1 : (kk : Int) < (m : Int) := by omega
          have q2 : (k' : Int) < (m : Int) := by omega
          have q3 : 0 < kk := by omega
          have q4 : (0 : Int) < (kk : Int) := by omega
          have hw : IntKind.i64.wrap ((kk : Int) - 1) = (k' : Int) := by rw [IntWalk.i64_in ((kk : Int) - 1) (by have := HMM.out; omega)]; omega
          have e1 : (⟨g, 0, none⟩ : Addr).add (kk * 4) = ⟨g, kk * 4, none⟩ := ad_add _ _
          have e2 : (⟨g, 0, none⟩ : Addr).add (k' * 4) = ⟨g, k' * 4, none⟩ := ad_add _ _
          have hne : ¬ kk = k' := by omega
          have hne2 : ¬ k' = kk := by omega
          have HB1 := Lib.hid (HBF.out x y)
          have HNO : Hid (bef x y = false → insL O x = P ++ x :: R) := Lib.hid (fun h => by rw [HI.out, hP2, insL_no h]; simp)
          have HYES : Hid (bef x y = true → insL O x = insL P' x ++ (y :: R)) := Lib.hid (fun h => by rw [HI.out, hP2, insL_yes h]; simp)
          have HMX : Hid ((P ++ x :: R)[kk]? = some x) := Lib.hid (by rw [← hPl]; exact mem_x P R x)
          have HMY : Hid ((P ++ x :: R)[k']? = some y) := Lib.hid (by rw [hk', hP2]; exact mem_y P' R x y)
          have HML : Hid ((P ++ x :: R).length = m) := Lib.hid (by simp; omega)
          have HPP : Hid (P'.length = k' ∧ k' + 1 = kk ∧ kk + 1 + R.length = m) := Lib.hid (by omega)
          have HPE := Lib.hid hP2
          have HGK2 : Hid (kk = gk) := Lib.hid (by rw [← hPl]; exact HGK.out)
          clear hol hP hP2 hPl hk' hkk hpm HI HGK
          generalize bef x y = r at *
          go_upto_region 7 with fail
          go_region_held3 (fun W => W.cell? ⟨g, kk * 4, none⟩ = some (.int .i64 x.id) ∧ W.cell? ⟨g, kk * 4 + 1, none⟩ = some (.int .i64 x.pow) ∧ W.cell? ⟨g, kk * 4 + 2, none⟩ = some (.int .i64 x.pri) ∧ W.cell? ⟨g, kk * 4 + 3, none⟩ = some (.bool x.ess) ∧ W.cell? ⟨g, k' * 4, none⟩ = some (.int .i64 y.id) ∧ W.cell? ⟨g, k' * 4 + 1, none⟩ = some (.int .i64 y.pow) ∧ W.cell? ⟨g, k' * 4 + 2, none⟩ = some (.int .i64 y.pri) ∧ W.cell? ⟨g, k' * 4 + 3, none⟩ = some (.bool y.ess)) (with_reducible (first | exact ⟨cell_drw x0, cell_drw x1, cell_drw x2, cell_drw x3, cell_drw y0, cell_drw y1, cell_drw y2, cell_drw y3⟩ | exact ⟨below_cell hB8 (cell_drw x0), below_cell hB8 (cell_drw x1), below_cell hB8 (cell_drw x2), below_cell hB8 (cell_drw x3), below_cell hB8 (cell_drw y0), below_cell hB8 (cell_drw y1), below_cell hB8 (cell_drw y2), below_cell hB8 (cell_drw y3)⟩))
            ((go_at_call 60; with_reducible refine (HB1.out _).mono ?_; rintro e w8 ⟨rfl, hB8⟩))
          have B8 := Lib.hid (bt (below_drew wr) hB8)
          clear hB8 x0 x1 x2 x3 y0 y1 y2 y3
          cases r with
          | false =>
            have HFI : Hid (w8.ownsRow w.heap.size 41 4 (.slice (some ⟨g, 0, none⟩) m c) (ord (T.take (q + 1))).length (flat4 (ord (T.take (q + 1))))) := Lib.hid (by
              have h := (HOL.out.keep B8.out).row
              rw [HSX.out, HNO.out rfl]
              rw [HML.out] at h ⊢
              exact h)
            clear HNO HYES
            go_wp2_with fail
            go_roundg (g2 - 1)
            case measure => have := HGG.out; have := HGE.out; have := HLT.out; omega
            case rel => exact ⟨q + 1, by have := HGG.out; have := HLT.out; omega, by go_num, HFI.out, BEL.out.trans (B8.out.mono BEL.out.size)⟩
          | true =>
            have OL8 := HOL.out.keep B8.out
            have OL9 := OL8.keep (bel1 w8 (.cells #[.int .i64 x.id, .int .i64 x.pow, .int .i64 x.pri, .bool x.ess] 41))
            obtain ⟨u0, u1, u2, u3⟩ := OL8.rd HMX.out
            obtain ⟨x0, x1, x2, x3⟩ := OL9.rd HMX.out
            obtain ⟨y0, y1, y2, y3⟩ := OL9.rd HMY.out
            have fx0 := OL9.fz (kk * 4)
            have fx1 := OL9.fz (kk * 4 + 1)
            have fx2 := OL9.fz (kk * 4 + 2)
            have fx3 := OL9.fz (kk * 4 + 3)
            have fy0 := OL9.fz (k' * 4)
            have fy1 := OL9.fz (k' * 4 + 1)
            have fy2 := OL9.fz (k' * 4 + 2)
            have fy3 := OL9.fz (k' * 4 + 3)
            have b0 := cell_top w8 #[.int .i64 x.id, .int .i64 x.pow, .int .i64 x.pri, .bool x.ess] 41 0
            have b1 := cell_top w8 #[.int .i64 x.id, .int .i64 x.pow, .int .i64 x.pri, .bool x.ess] 41 1
            have b2 := cell_top w8 #[.int .i64 x.id, .int .i64 x.pow, .int .i64 x.pri, .bool x.ess] 41 2
            have b3 := cell_top w8 #[.int .i64 x.id, .int .i64 x.pow, .int .i64 x.pri, .bool x.ess] 41 3
            have hgl : g < w8.heap.size := by obtain ⟨_, _, _, cur, h4, _⟩ := OL8; exact hlt_of h4
            have hg1 : ¬ g = w8.heap.size := by omega
            have hg2' : ¬ w8.heap.size = g := by omega
            have HGB : Hid (w.heap.size ≤ g) := Lib.hid OL8.1
            have HFO : Hid (OwnL (put4o (put4o (w8.alloc (.cells #[.int .i64 x.id, .int .i64 x.pow, .int .i64 x.pri, .bool x.ess] 41)) g (kk * 4) y) g (k' * 4) x) w.heap.size g c (P' ++ x :: y :: R)) := Lib.hid (by
              have h := (OL9.put (k := kk) (by rw [HML.out]; exact p1) y).put (k := k') (by rw [List.length_set, HML.out]; exact p2) x
              have hs := swap_eq P' R x y
              rw [← HPE.out, HPP.out.1, HPP.out.2.1] at hs
              rw [hs] at h
              exact h)
            have HBO : Hid (Below w.heap.size w (put4o (put4o (w8.alloc (.cells #[.int .i64 x.id, .int .i64 x.pow, .int .i64 x.pri, .bool x.ess] 41)) g (kk * 4) y) g (k' * 4) x)) := Lib.hid (by
              have h1 : Below w.heap.size w (w8.alloc (.cells #[.int .i64 x.id, .int .i64 x.pow, .int .i64 x.pri, .bool x.ess] 41)) := BEL.out.trans ((bt B8.out (bel1 w8 _)).mono BEL.out.size)
              exact (h1.trans (put4o_below (kk * 4) y HGB.out)).trans (put4o_below (k' * 4) x HGB.out))
            have HI2 := Lib.hid (HYES.out rfl)
            clear HNO HYES OL8 OL9 hgl
            go_wp2_with fail
            go_roundg (gk - 1)
            case measure => have := HGK2.out; omega
            case rel => exact ⟨P', y :: R, by rw [HPP.out.1], by have h1 := HPP.out; have h2 := HGK2.out; omega, by have h1 := HPP.out; rw [List.length_cons]; omega, HFO.out, HI2, HBO.out⟩
    · obtain rfl : q = len := by omega
      have hqi : ¬ (q : Int) < (q : Int) := by omega
      go_wp2_with fail
      go_ret
      exact ⟨_, rfl, by rw [← HALL.out]; exact HO.out, BEL.out⟩
end Pw
end Go.Proofs.Ytobbnbelacncjaa
