/-
  For every list of items that holds at most 1048576 values and every number, WireCut returns true: reading the values from a proper prefix of their encoding meets ErrShort.
-/
import Derived.Test.YtdfokmhpnniphaaWLives
import Derived.Test.YtdfokmhpnniphaaWRead
import Derived.Test.YtdfokmhpnniphaaWWritten
import Derived.Deep.RegionHeld3
namespace Go.Proofs.Ytdfokmhpnniphaa.wireCut
open Go.ChangeShapes Go.WideShapes Go.ChangeAt Go.RowKit
open Go.ChangeMaps (open_string shut_string)
set_option linter.unusedVariables false
open W H in
theorem val_fit {x : W.Itm} (h : x.Ok) (hb : x.bs.length ≤ 1048576) (hl : x.ls.length ≤ 1048576) : W.Fit x.val := by
  unfold W.Itm.val
  split
  · exact h.u
  · split
    · exact h.i
    · split
      · show x.bs.length < 9223372036854775808
        omega
      · exact ⟨by omega, h.lb⟩
open W H in
theorem rV_len {x : W.Itm} (h : x.Ok) (s : W.St) : W.rV s (x.len : Int) x.val = W.rV s (W.size x.val) x.val := by
  unfold W.Itm.val W.Itm.len
  by_cases h0 : x.k = 0
  · rw [if_pos h0]; rfl
  · rw [if_neg h0]
    by_cases h1 : x.k = 1
    · rw [if_pos h1]; rfl
    · rw [if_neg h1]
      by_cases h2 : x.k = 2
      · rw [if_pos h2, if_pos h2, ← h.bl]; rfl
      · rw [if_neg h2, if_neg h2, ← h.ll]; rfl
open W H in
theorem rAll_snoc : ∀ (vs : List W.Val) (s : W.St) (v : W.Val), W.rAll s (vs ++ [v]) = (W.rV (W.rAll s vs) (W.size v) v).1
  | [], s, v => rfl
  | u :: vs, s, v => rAll_snoc vs _ v


set_option maxRecDepth 100000 in
set_option maxHeartbeats 1000000 in
theorem walk (a0 : Option Addr) (n0 c0 : Nat) (z0 : List W.Itm) (a1 : Int) (w : World) (l0 : z0.length = n0) (cp0 : n0 ≤ c0 ∧ c0 ≤ maxLen) (nz0 : a0 = none → c0 = 0) (rd0 : W.RdIt w w.heap.size a0 z0) (wf0 : ∀ x ∈ z0, x.Ok) (bk0 : (z0.map Go.Proofs.Ytdfokmhpnniphaa.W.Itm.w).sum ≤ 1048576) (w1 : (Lit.int .i64 a1).wf = true) :
    Calls Try.prog 8 #[.slice a0 n0 c0, .int .i64 a1] w fun e w' => e = .returned (.bool true) ∧ Below w.heap.size w w' := by
  have ha1 := H.i64_range w1
  obtain ⟨hok, htot, hlen⟩ := W.its_small wf0 bk0
  have h1 := W.written_any a0 n0 c0 z0 w l0 (by omega) rd0 (fun x hx => ⟨(hok x hx).1, by have := (hok x hx).2.1; omega, (hok x hx).2.2⟩) (by omega) (fun x hx => by have := (hok x hx).2.1; omega)
  have hb0 : H.Byt (W.encAll (z0.map W.Itm.val)) := W.encAll_byt fun x hx => (hok x hx).1
  have hcut : ∀ m : Nat, m < (W.encAll (z0.map W.Itm.val)).length → (W.rAll ((W.encAll (z0.map W.Itm.val)).take m, 0) (z0.map W.Itm.val)).2 = 6 := fun m hm =>
    W.rAll_cut (z0.map W.Itm.val) _ ((W.encAll (z0.map W.Itm.val)).drop m) (fun v hv => by
      obtain ⟨x, hx, rfl⟩ := List.mem_map.1 hv
      exact val_fit (hok x hx).1 (hok x hx).2.1 (hok x hx).2.2) (List.take_append_drop m _).symm (fun h => by have := congrArg List.length h; simp at this; omega)
  obtain ⟨E, hE⟩ : ∃ E, W.encAll (z0.map W.Itm.val) = E := ⟨_, rfl⟩
  rw [hE] at h1 htot hb0 hcut
  have HCUT := Lib.hid hcut
  have HR := Lib.hid rd0
  have HL := Lib.hid l0
  have HK := Lib.hid hok
  have HB0 := Lib.hid hb0
  have hcm : c0 ≤ 9223372036854775807 := cp0.2
  have hcn := cp0.1
  clear rd0 l0 wf0 nz0 bk0 cp0 hok hE hb0 w1 hcut
  go_enter Try.func8, Try.ntmps8
  go_wp2_with fail
  refine h1.mono ?_
  clear h1
  rintro r w1 ⟨v1, rfl, ho1, hB1⟩
  obtain ⟨A1, c1, rfl⟩ := H.own_shape ho1
  obtain ⟨_, o1, o2, o3, o4⟩ := W.own_cap ho1
  have hrd1 := H.own_RdI ho1
  have HB1 := Lib.hid hB1
  clear ho1 hB1
  rcases Nat.eq_zero_or_pos E.length with hz | hp
  · rw [hz]
    have hlv := W.lives_any w1
    clear hz hrd1 o1 o2 o3 o4
    go_wp2_with fail
    refine hlv.mono ?_
    clear hlv
    rintro r w2 ⟨rfl, hb2⟩
    have HB2 := Lib.hid (HB1.out.trans (hb2.mono HB1.out.size))
    clear hb2
    go_wp2_with fail
    go_ret
    exact ⟨rfl, HB2.out⟩
  · have q0 : ((E.length : Int) == 0) = false := by simp; intro h; rw [h] at hp; simp at hp
    obtain ⟨t, ht⟩ : ∃ t, a1.tmod (E.length : Int) = t := ⟨_, rfl⟩
    have t1 : t < (E.length : Int) := by rw [← ht]; exact Int.tmod_lt_of_pos _ (by omega)
    have t2 : -(E.length : Int) < t := by rw [← ht]; exact Int.lt_tmod_of_pos _ (by omega)
    have hc1 : c1 ≤ 9223372036854775807 := o2
    have hnew : ∀ m : Nat, m < E.length → Calls Try.prog 17 #[.slice A1 m c1] w1 fun r w' => ∃ b A c, r = .returned (.pointer (some ⟨b, 0, none⟩)) ∧ W.RAt w' b A m c (E.take m) 0 0 ∧ w1.heap.size ≤ b ∧ (∀ a, A = some a → w1.heap.size ≤ a.block) ∧ Below w1.heap.size w1 w' := fun m hm =>
      W.new_any A1 m c1 (E.take m) w1 (by rw [List.length_take]; omega) (by omega) o3 (fun x hx => HB0.out x (List.mem_of_mem_take hx)) (W.RdI.take m hrd1)
    have HNEW := Lib.hid hnew
    clear hnew hrd1 o2 o3 o4
    by_cases hneg : t < 0
    · obtain ⟨m, hm⟩ : ∃ m : Nat, t + (E.length : Int) = m := ⟨(t + (E.length : Int)).toNat, by omega⟩
      have hml : m < E.length := by omega
      have hnew := HNEW.out m hml
      have HML := Lib.hid hml
      have u1 : (m : Int) ≤ (c1 : Int) := by omega
      have u0 : (0 : Int) ≤ t + (E.length : Int) := by omega
      have u2 : t + (E.length : Int) ≤ 9223372036854775807 := by omega
      have uw : wrap64 (t + (E.length : Int)) = (m : Int) := by rw [← hm]; unfold wrap64; omega
      have hp' : 0 < E.length := hp
      have HM := Lib.hid hm
      clear HNEW hm u0 u2
      go_wp2_with fail
      rw [show (t + (E.length : Int)).toNat = m from by have := HM.out; omega]
      clear uw
      refine hnew.mono ?_
      clear hnew
      rintro r w2 ⟨b, A, c, rfl, hr2, hb2, _, hB2⟩
      have HR2 := Lib.hid hr2
      have HB2 := Lib.hid (HB1.out.trans (hB2.mono HB1.out.size))
      have hbw : w.heap.size ≤ b := by have := HB1.out.size; omega
      clear hr2 hb2 hB2 HB1
      have hpl : (E.take m).length ≤ 10485760 := by rw [List.length_take]; omega
      have hcut := HCUT.out m HML.out
      generalize E.take m = P at HR2 hpl hcut
      have HC6 := Lib.hid hcut
      clear hcut HCUT
      go_wp2_with fail
      go_loopw [8] (fun i wr => ∃ (k kb : Nat) (e : Int), k ≤ n0 ∧ i = .int .i64 k ∧ W.RAt wr b A m c P kb e ∧ W.StOf P kb e (W.rAll (P, 0) ((z0.map W.Itm.val).take k)) ∧ Below w.heap.size w wr) (fun i _ => n0 - (intOf i).toNat)
      case atStart => exact ⟨0, 0, 0, Nat.zero_le _, rfl, HR2.out, ⟨rfl, fun _ => rfl⟩, HB2.out⟩
      case round =>
        obtain ⟨k, kb, e, hk, rfl, hr, hd, hB⟩ := hrel
        have HRr := Lib.hid hr
        have HBr := Lib.hid hB
        have HD := Lib.hid hd
        clear hr hB hd
        by_cases hlt : k < n0
        · obtain ⟨x, hx⟩ : ∃ x, z0[k]? = some x := ⟨_, List.getElem?_eq_getElem (by rw [HL.out]; exact hlt)⟩
          obtain ⟨ad, rfl, ha, hri⟩ := (HR.out.below HBr.out) k x hx
          obtain ⟨hok, hob, hol⟩ := HK.out x (List.mem_of_getElem? hx)
          have hst : (W.rV (W.rAll (P, 0) ((z0.map W.Itm.val).take k)) (x.len : Int) x.val).1 = W.rAll (P, 0) ((z0.map W.Itm.val).take (k + 1)) := by
            rw [rV_len hok, List.take_add_one, List.getElem?_map, hx]
            exact (rAll_snoc _ _ _).symm
          have hcells : ∀ w' : World, Below w.heap.size w w' → w'.cell? (ad.add (k * 6)) = some (.int .i64 x.k) ∧ w'.cell? ⟨(ad.add (k * 6)).block, (ad.add (k * 6)).off + 1, none⟩ = some (.int .u64 x.u) ∧ w'.cell? ⟨(ad.add (k * 6)).block, (ad.add (k * 6)).off + 2, none⟩ = some (.int .i64 x.i) ∧ w'.cell? ⟨(ad.add (k * 6)).block, (ad.add (k * 6)).off + 3, none⟩ = some (.slice x.bA x.bn x.bc) ∧ w'.cell? ⟨(ad.add (k * 6)).block, (ad.add (k * 6)).off + 4, none⟩ = some (.slice x.lA x.ln x.lc) ∧ w'.cell? ⟨(ad.add (k * 6)).block, (ad.add (k * 6)).off + 5, none⟩ = some (.int .i64 x.m) ∧ Below w.heap.size w w' := fun w' hb => by
            obtain ⟨ad', e, _, hri⟩ := (HR.out.below hb) k x hx
            cases e
            obtain ⟨hc0, hc1, hc2, hc3, hc4, hc5, _, _⟩ := hri
            rw [W.add_pos _ _ (by decide)] at hc1 hc2 hc3 hc4 hc5
            exact ⟨hc0, hc1, hc2, hc3, hc4, hc5, hb⟩
          have hlen1 : ∀ W1 : World, Below w.heap.size w W1 → Calls Try.prog 32 #[x.agg] W1 fun r w' => r = .returned (.int .i64 x.len) ∧ (W.RAt W1 b A m c P kb e → W.RAt w' b A m c P kb e) ∧ w'.cell? (ad.add (k * 6)) = some (.int .i64 x.k) ∧ w'.cell? ⟨(ad.add (k * 6)).block, (ad.add (k * 6)).off + 1, none⟩ = some (.int .u64 x.u) ∧ w'.cell? ⟨(ad.add (k * 6)).block, (ad.add (k * 6)).off + 2, none⟩ = some (.int .i64 x.i) ∧ w'.cell? ⟨(ad.add (k * 6)).block, (ad.add (k * 6)).off + 3, none⟩ = some (.slice x.bA x.bn x.bc) ∧ w'.cell? ⟨(ad.add (k * 6)).block, (ad.add (k * 6)).off + 4, none⟩ = some (.slice x.lA x.ln x.lc) ∧ w'.cell? ⟨(ad.add (k * 6)).block, (ad.add (k * 6)).off + 5, none⟩ = some (.int .i64 x.m) ∧ Below w.heap.size w w' := fun W1 hb =>
            (W.length_any x W1).mono fun r w' ⟨hr, hB⟩ => ⟨hr, fun h => h.same hB, hcells w' (hb.trans (hB.mono hb.size))⟩
          have hread : ∀ W1 : World, W.RAt W1 b A m c P kb e → Below w.heap.size w W1 → Calls Try.prog 30 #[.pointer (some ⟨b, 0, none⟩), x.agg, .int .i64 x.len] W1 fun r w' => ∃ y : W.Itm, r = .returned y.agg ∧ (∃ kb' e', W.RAt w' b A m c P kb' e' ∧ W.StOf P kb' e' (W.rAll (P, 0) ((z0.map W.Itm.val).take (k + 1)))) ∧ w'.cell? (ad.add (k * 6)) = some (.int .i64 x.k) ∧ w'.cell? ⟨(ad.add (k * 6)).block, (ad.add (k * 6)).off + 1, none⟩ = some (.int .u64 x.u) ∧ w'.cell? ⟨(ad.add (k * 6)).block, (ad.add (k * 6)).off + 2, none⟩ = some (.int .i64 x.i) ∧ w'.cell? ⟨(ad.add (k * 6)).block, (ad.add (k * 6)).off + 3, none⟩ = some (.slice x.bA x.bn x.bc) ∧ w'.cell? ⟨(ad.add (k * 6)).block, (ad.add (k * 6)).off + 4, none⟩ = some (.slice x.lA x.ln x.lc) ∧ w'.cell? ⟨(ad.add (k * 6)).block, (ad.add (k * 6)).off + 5, none⟩ = some (.int .i64 x.m) ∧ Below w.heap.size w w' := fun W1 h1 hb =>
            (W.read_any (s := W.rAll (P, 0) ((z0.map W.Itm.val).take k)) x (x.len : Int) (by unfold W.Itm.len; split; (rw [← hok.bl]; omega); (rw [← hok.ll]; omega)) hok (fun h0 => by rw [HD.out.2 (by rw [← HD.out.1]; exact h0), List.length_drop]; omega) h1 HD.out).mono fun r w' h => by
              obtain ⟨y, hr, yok, yk, yv, _, _, _, _, _, yb, yl, _, _, kb', e', yR, yS, yV⟩ := h
              rw [hst] at yS
              exact ⟨y, hr, ⟨kb', e', yR, yS⟩, hcells w' (hb.trans (yV.below hb.size (fun k hk => by omega)))⟩
          have hrd : W.RAt wr.drew b A m c P kb e := HRr.out.same (Below.refl _ _).drew
          obtain ⟨kk0, kk1, kk2, kk3, kk4, kk5, kk6⟩ := hcells wr.drew HBr.out.drew
          obtain ⟨hc0, hc1, hc2, hc3, hc4, hc5, _⟩ := hcells wr HBr.out
          have hk0 : (0 : Int) ≤ (k : Int) := by omega
          have hk1 : (k : Int) < (n0 : Int) := by omega
          unfold W.Itm.agg at hread hlen1
          have HRD := Lib.hid hread
          have HLN := Lib.hid hlen1
          have HRd := Lib.hid hrd
          clear hread hlen1 hx hok hcells hri hrd hst hob hol
          go_wp2_with fail
          go_region_held3 (fun w' => w'.cell? (ad.add (k * 6)) = some (.int .i64 x.k) ∧ w'.cell? ⟨(ad.add (k * 6)).block, (ad.add (k * 6)).off + 1, none⟩ = some (.int .u64 x.u) ∧ w'.cell? ⟨(ad.add (k * 6)).block, (ad.add (k * 6)).off + 2, none⟩ = some (.int .i64 x.i) ∧ w'.cell? ⟨(ad.add (k * 6)).block, (ad.add (k * 6)).off + 3, none⟩ = some (.slice x.bA x.bn x.bc) ∧ w'.cell? ⟨(ad.add (k * 6)).block, (ad.add (k * 6)).off + 4, none⟩ = some (.slice x.lA x.ln x.lc) ∧ w'.cell? ⟨(ad.add (k * 6)).block, (ad.add (k * 6)).off + 5, none⟩ = some (.int .i64 x.m) ∧ Below w.heap.size w w') (first | exact ⟨kk0, kk1, kk2, kk3, kk4, kk5, kk6⟩ | exact ⟨by assumption, by assumption, by assumption, by assumption, by assumption, by assumption, by assumption⟩ | go_keep)
            (first | (go_at_call 32; refine (HLN.out _ ?_).mono ?_; (assumption); rintro e w5 ⟨rfl, hR5, d0, d1, d2, d3, d4, d5, hb5⟩; have HR5 := Lib.hid hR5; clear hR5) | (go_at_call 30; refine (HRD.out _ (HR5.out HRd.out) ?_).mono ?_; (assumption); rintro e w6 ⟨y, rfl, hR6, d0, d1, d2, d3, d4, d5, hb6⟩; have HR6 := Lib.hid hR6; clear hR6))
          all_goals
            clear kk0 kk1 kk2 kk3 kk4 kk5 kk6 hc0 hc1 hc2 hc3 hc4 hc5
            go_wp2_with fail
            go_roundw
            case rel =>
              obtain ⟨kb6, e6, h6, h6s⟩ := HR6.out
              exact ⟨k + 1, kb6, e6, by omega, by go_num, h6, h6s, hb6⟩
            case measure => simp [intOf]; omega
        · have h6 := HC6.out
          have hd := HD.out
          rw [List.take_of_length_le (by rw [List.length_map, HL.out]; omega)] at hd
          obtain rfl : e = 6 := by rw [← hd.1, h6]
          have he := W.err_any HRr.out
          have hen := W.end_rd HRr.out hd
          rw [show W.endOf (W.rAll (P, 0) (z0.map W.Itm.val)) = 6 from by unfold W.endOf; rw [if_neg (fun h => by rw [h6] at h; cases h.1), h6]] at hen
          clear h6 hd HD
          go_wp2_with fail
          refine he.mono ?_
          clear he
          rintro r w5 ⟨rfl, rfl⟩
          go_wp2_with fail
          refine hen.mono ?_
          clear hen
          rintro r w6 ⟨rfl, m6, rfl⟩
          have hlv := W.lives_any (Go.World.drewN w5 m6)
          go_wp2_with fail
          refine hlv.mono ?_
          clear hlv
          rintro r w7 ⟨rfl, hb7⟩
          have HB7 := Lib.hid ((below_drewN HBr.out m6).trans (hb7.mono HBr.out.size))
          clear hb7
          go_wp2_with fail
          go_ret
          exact ⟨rfl, HB7.out⟩
    · obtain ⟨m, rfl⟩ : ∃ m : Nat, t = m := ⟨t.toNat, by omega⟩
      have hml : m < E.length := by omega
      have hnew := HNEW.out m hml
      have HML := Lib.hid hml
      have u1 : (m : Int) ≤ (c1 : Int) := by omega
      clear HNEW
      go_wp2_with fail
      refine hnew.mono ?_
      clear hnew
      rintro r w2 ⟨b, A, c, rfl, hr2, hb2, _, hB2⟩
      have HR2 := Lib.hid hr2
      have HB2 := Lib.hid (HB1.out.trans (hB2.mono HB1.out.size))
      have hbw : w.heap.size ≤ b := by have := HB1.out.size; omega
      clear hr2 hb2 hB2 HB1
      have hpl : (E.take m).length ≤ 10485760 := by rw [List.length_take]; omega
      have hcut := HCUT.out m HML.out
      generalize E.take m = P at HR2 hpl hcut
      have HC6 := Lib.hid hcut
      clear hcut HCUT
      go_wp2_with fail
      go_loopw [8] (fun i wr => ∃ (k kb : Nat) (e : Int), k ≤ n0 ∧ i = .int .i64 k ∧ W.RAt wr b A m c P kb e ∧ W.StOf P kb e (W.rAll (P, 0) ((z0.map W.Itm.val).take k)) ∧ Below w.heap.size w wr) (fun i _ => n0 - (intOf i).toNat)
      case atStart => exact ⟨0, 0, 0, Nat.zero_le _, rfl, HR2.out, ⟨rfl, fun _ => rfl⟩, HB2.out⟩
      case round =>
        obtain ⟨k, kb, e, hk, rfl, hr, hd, hB⟩ := hrel
        have HRr := Lib.hid hr
        have HBr := Lib.hid hB
        have HD := Lib.hid hd
        clear hr hB hd
        by_cases hlt : k < n0
        · obtain ⟨x, hx⟩ : ∃ x, z0[k]? = some x := ⟨_, List.getElem?_eq_getElem (by rw [HL.out]; exact hlt)⟩
          obtain ⟨ad, rfl, ha, hri⟩ := (HR.out.below HBr.out) k x hx
          obtain ⟨hok, hob, hol⟩ := HK.out x (List.mem_of_getElem? hx)
          have hst : (W.rV (W.rAll (P, 0) ((z0.map W.Itm.val).take k)) (x.len : Int) x.val).1 = W.rAll (P, 0) ((z0.map W.Itm.val).take (k + 1)) := by
            rw [rV_len hok, List.take_add_one, List.getElem?_map, hx]
            exact (rAll_snoc _ _ _).symm
          have hcells : ∀ w' : World, Below w.heap.size w w' → w'.cell? (ad.add (k * 6)) = some (.int .i64 x.k) ∧ w'.cell? ⟨(ad.add (k * 6)).block, (ad.add (k * 6)).off + 1, none⟩ = some (.int .u64 x.u) ∧ w'.cell? ⟨(ad.add (k * 6)).block, (ad.add (k * 6)).off + 2, none⟩ = some (.int .i64 x.i) ∧ w'.cell? ⟨(ad.add (k * 6)).block, (ad.add (k * 6)).off + 3, none⟩ = some (.slice x.bA x.bn x.bc) ∧ w'.cell? ⟨(ad.add (k * 6)).block, (ad.add (k * 6)).off + 4, none⟩ = some (.slice x.lA x.ln x.lc) ∧ w'.cell? ⟨(ad.add (k * 6)).block, (ad.add (k * 6)).off + 5, none⟩ = some (.int .i64 x.m) ∧ Below w.heap.size w w' := fun w' hb => by
            obtain ⟨ad', e, _, hri⟩ := (HR.out.below hb) k x hx
            cases e
            obtain ⟨hc0, hc1, hc2, hc3, hc4, hc5, _, _⟩ := hri
            rw [W.add_pos _ _ (by decide)] at hc1 hc2 hc3 hc4 hc5
            exact ⟨hc0, hc1, hc2, hc3, hc4, hc5, hb⟩
          have hlen1 : ∀ W1 : World, Below w.heap.size w W1 → Calls Try.prog 32 #[x.agg] W1 fun r w' => r = .returned (.int .i64 x.len) ∧ (W.RAt W1 b A m c P kb e → W.RAt w' b A m c P kb e) ∧ w'.cell? (ad.add (k * 6)) = some (.int .i64 x.k) ∧ w'.cell? ⟨(ad.add (k * 6)).block, (ad.add (k * 6)).off + 1, none⟩ = some (.int .u64 x.u) ∧ w'.cell? ⟨(ad.add (k * 6)).block, (ad.add (k * 6)).off + 2, none⟩ = some (.int .i64 x.i) ∧ w'.cell? ⟨(ad.add (k * 6)).block, (ad.add (k * 6)).off + 3, none⟩ = some (.slice x.bA x.bn x.bc) ∧ w'.cell? ⟨(ad.add (k * 6)).block, (ad.add (k * 6)).off + 4, none⟩ = some (.slice x.lA x.ln x.lc) ∧ w'.cell? ⟨(ad.add (k * 6)).block, (ad.add (k * 6)).off + 5, none⟩ = some (.int .i64 x.m) ∧ Below w.heap.size w w' := fun W1 hb =>
            (W.length_any x W1).mono fun r w' ⟨hr, hB⟩ => ⟨hr, fun h => h.same hB, hcells w' (hb.trans (hB.mono hb.size))⟩
          have hread : ∀ W1 : World, W.RAt W1 b A m c P kb e → Below w.heap.size w W1 → Calls Try.prog 30 #[.pointer (some ⟨b, 0, none⟩), x.agg, .int .i64 x.len] W1 fun r w' => ∃ y : W.Itm, r = .returned y.agg ∧ (∃ kb' e', W.RAt w' b A m c P kb' e' ∧ W.StOf P kb' e' (W.rAll (P, 0) ((z0.map W.Itm.val).take (k + 1)))) ∧ w'.cell? (ad.add (k * 6)) = some (.int .i64 x.k) ∧ w'.cell? ⟨(ad.add (k * 6)).block, (ad.add (k * 6)).off + 1, none⟩ = some (.int .u64 x.u) ∧ w'.cell? ⟨(ad.add (k * 6)).block, (ad.add (k * 6)).off + 2, none⟩ = some (.int .i64 x.i) ∧ w'.cell? ⟨(ad.add (k * 6)).block, (ad.add (k * 6)).off + 3, none⟩ = some (.slice x.bA x.bn x.bc) ∧ w'.cell? ⟨(ad.add (k * 6)).block, (ad.add (k * 6)).off + 4, none⟩ = some (.slice x.lA x.ln x.lc) ∧ w'.cell? ⟨(ad.add (k * 6)).block, (ad.add (k * 6)).off + 5, none⟩ = some (.int .i64 x.m) ∧ Below w.heap.size w w' := fun W1 h1 hb =>
            (W.read_any (s := W.rAll (P, 0) ((z0.map W.Itm.val).take k)) x (x.len : Int) (by unfold W.Itm.len; split; (rw [← hok.bl]; omega); (rw [← hok.ll]; omega)) hok (fun h0 => by rw [HD.out.2 (by rw [← HD.out.1]; exact h0), List.length_drop]; omega) h1 HD.out).mono fun r w' h => by
              obtain ⟨y, hr, yok, yk, yv, _, _, _, _, _, yb, yl, _, _, kb', e', yR, yS, yV⟩ := h
              rw [hst] at yS
              exact ⟨y, hr, ⟨kb', e', yR, yS⟩, hcells w' (hb.trans (yV.below hb.size (fun k hk => by omega)))⟩
          have hrd : W.RAt wr.drew b A m c P kb e := HRr.out.same (Below.refl _ _).drew
          obtain ⟨kk0, kk1, kk2, kk3, kk4, kk5, kk6⟩ := hcells wr.drew HBr.out.drew
          obtain ⟨hc0, hc1, hc2, hc3, hc4, hc5, _⟩ := hcells wr HBr.out
          have hk0 : (0 : Int) ≤ (k : Int) := by omega
          have hk1 : (k : Int) < (n0 : Int) := by omega
          unfold W.Itm.agg at hread hlen1
          have HRD := Lib.hid hread
          have HLN := Lib.hid hlen1
          have HRd := Lib.hid hrd
          clear hread hlen1 hx hok hcells hri hrd hst hob hol
          go_wp2_with fail
          go_region_held3 (fun w' => w'.cell? (ad.add (k * 6)) = some (.int .i64 x.k) ∧ w'.cell? ⟨(ad.add (k * 6)).block, (ad.add (k * 6)).off + 1, none⟩ = some (.int .u64 x.u) ∧ w'.cell? ⟨(ad.add (k * 6)).block, (ad.add (k * 6)).off + 2, none⟩ = some (.int .i64 x.i) ∧ w'.cell? ⟨(ad.add (k * 6)).block, (ad.add (k * 6)).off + 3, none⟩ = some (.slice x.bA x.bn x.bc) ∧ w'.cell? ⟨(ad.add (k * 6)).block, (ad.add (k * 6)).off + 4, none⟩ = some (.slice x.lA x.ln x.lc) ∧ w'.cell? ⟨(ad.add (k * 6)).block, (ad.add (k * 6)).off + 5, none⟩ = some (.int .i64 x.m) ∧ Below w.heap.size w w') (first | exact ⟨kk0, kk1, kk2, kk3, kk4, kk5, kk6⟩ | exact ⟨by assumption, by assumption, by assumption, by assumption, by assumption, by assumption, by assumption⟩ | go_keep)
            (first | (go_at_call 32; refine (HLN.out _ ?_).mono ?_; (assumption); rintro e w5 ⟨rfl, hR5, d0, d1, d2, d3, d4, d5, hb5⟩; have HR5 := Lib.hid hR5; clear hR5) | (go_at_call 30; refine (HRD.out _ (HR5.out HRd.out) ?_).mono ?_; (assumption); rintro e w6 ⟨y, rfl, hR6, d0, d1, d2, d3, d4, d5, hb6⟩; have HR6 := Lib.hid hR6; clear hR6))
          all_goals
            clear kk0 kk1 kk2 kk3 kk4 kk5 kk6 hc0 hc1 hc2 hc3 hc4 hc5
            go_wp2_with fail
            go_roundw
            case rel =>
              obtain ⟨kb6, e6, h6, h6s⟩ := HR6.out
              exact ⟨k + 1, kb6, e6, by omega, by go_num, h6, h6s, hb6⟩
            case measure => simp [intOf]; omega
        · have h6 := HC6.out
          have hd := HD.out
          rw [List.take_of_length_le (by rw [List.length_map, HL.out]; omega)] at hd
          obtain rfl : e = 6 := by rw [← hd.1, h6]
          have he := W.err_any HRr.out
          have hen := W.end_rd HRr.out hd
          rw [show W.endOf (W.rAll (P, 0) (z0.map W.Itm.val)) = 6 from by unfold W.endOf; rw [if_neg (fun h => by rw [h6] at h; cases h.1), h6]] at hen
          clear h6 hd HD
          go_wp2_with fail
          refine he.mono ?_
          clear he
          rintro r w5 ⟨rfl, rfl⟩
          go_wp2_with fail
          refine hen.mono ?_
          clear hen
          rintro r w6 ⟨rfl, m6, rfl⟩
          have hlv := W.lives_any (Go.World.drewN w5 m6)
          go_wp2_with fail
          refine hlv.mono ?_
          clear hlv
          rintro r w7 ⟨rfl, hb7⟩
          have HB7 := Lib.hid ((below_drewN HBr.out m6).trans (hb7.mono HBr.out.size))
          clear hb7
          go_wp2_with fail
          go_ret
          exact ⟨rfl, HB7.out⟩

set_option maxRecDepth 100000 in
theorem lifted (os : Os) (started : os.Started) (H0 : Type) (enc : TypeId × Value → H0) (F0 : Stop.Interp) :
    ReturnsInHanded {} Try.checked os 8 .any ((Rows.OpenSpec.upto Rows.wireCutSpec).pre6 enc Try.prog Try.f8 Rows.wireCutUptoRow.domain false) (((Rows.OpenSpec.upto Rows.wireCutSpec).at F0).post enc Try.prog Try.f8 false true false false) := by
  refine returnsInHanded_of_cond_sized (C := Try.checked) (s := (Rows.OpenSpec.upto Rows.wireCutSpec)) (k := Rows.uptoSmall) rfl W.own started (by kernel_rfl) Try.func8
    (OpenSpec.witness (enc := enc) (C := Try.checked) (s := (Rows.OpenSpec.upto Rows.wireCutSpec)) (k := Rows.uptoSmall) rfl false ⟨#[], #[.slice none 0 0, .int .i64 0], []⟩ 8 (by kernel_rfl) (by kernel_rfl) (by kernel_rfl)
      (x := ([.nil, .lit (.int .i64 0)], [], [])) (by kernel_rfl) (by kernel_rfl) (by kernel_rfl)) ?_
  intro W base args ds gs before hval0 hW hcnd hk0 hsz0 _
  have hval : ∀ (j : Nat) t v, Try.f8.params[j]? = some t → args[j]? = some v → Value.okWide Try.prog W .any base t v := hval0
  have hW' := hW
  obtain ⟨p, q, hA0, hV, rfl, hfz, hnd⟩ := hW
  have hA : DataW.TrodAll enc Try.prog W 0 (fun _ => true) true Try.f8.params.toList args.toList ds p := hA0
  rw [Try.params8] at hA hval
  obtain ⟨v0, vs0, d0, ds0, p0, q0, hargs, rfl, rfl, h0, r0⟩ := trodAll_cons hA
  obtain ⟨v1, vs1, d1, ds1, p1, q1, rfl, rfl, rfl, h1, r1⟩ := trodAll_cons r0
  obtain ⟨rfl, rfl, rfl⟩ := trodAll_nil r1
  obtain rfl : args = #[v0, v1] := by cases args; simp_all
  obtain ⟨rfl, rfl⟩ := trodVars_none hV
  obtain ⟨a0, n0, c0, rfl⟩ := okWide_slice Try.underlying22 (hval 0 22 v0 rfl rfl)
  have k0 := h0
  have lt0 : ∀ x ∈ p0, x.block < W.heap.size := by obtain ⟨m, hm⟩ := k0; exact DataW.trod_lt m _ _ _ hm
  obtain ⟨z0, l0, cp0, cq0, nz0, rd0, wf0, bj0⟩ := Go.Proofs.Ytdfokmhpnniphaa.W.open_its h0
  obtain ⟨a1, rfl, rfl, rfl, w1⟩ := open_int Try.underlying3 (hval 1 3 v1 rfl rfl) h1
  clear hA0 hval0
  have hk := of_decide_eq_true hk0
  simp only [List.append_nil, Rows.uptoBulkAll] at hk
  have bk0 : (z0.map Go.Proofs.Ytdfokmhpnniphaa.W.Itm.w).sum ≤ 1048576 := by omega
  refine (walk a0 n0 c0 z0 a1 W l0 ⟨cp0, cq0⟩ nz0 rd0 wf0 bk0 w1).mono fun e W' ⟨he, bel⟩ => ?_
  subst he
  exact ⟨_, rfl, _, _, _, [], _, [], hW', trodAll_mk1 (shut_bool Try.underlying4 _), (trodAll_cons_mk (Below.trod Go.Proofs.Ytdfokmhpnniphaa.W.laidOut (by kernel_rfl) (of_decide_eq_true (by kernel_rfl)) k0 bel lt0) (trodAll_cons_mk (shut_int Try.underlying3 w1) trodAll_mk0)), rfl, bel.frame _, fun h => by cases h⟩

/-- ████ THE STATEMENT ████ -/
theorem proved : Rows.WireCutUptoSaid :=
  OpenClaim.holds_of_cond 8 Try.f8 rfl rfl rfl rfl rfl rfl rfl ⟨rfl, rfl, rfl, rfl, rfl⟩ rfl rfl rfl rfl rfl (by kernel_rfl) Try.func8 (by kernel_rfl)
    (of_decide_eq_true (by kernel_rfl)) (by unfold Func.isWrapper; first | (rw [if_pos (by decide +kernel)]; kernel_rfl) | (rw [if_neg (by decide +kernel)]; exact ⟨rfl, rfl⟩))
    (fun os started H0 enc _ F0 => by rw [OpenClaim.pre_of_none' rfl]; exact lifted os started H0 enc F0)
end Go.Proofs.Ytdfokmhpnniphaa.wireCut
