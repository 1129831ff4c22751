/-
  cmp.Or over integers; compare; slices.IsSortedFunc over windows.
-/
import Derived.Test.YtojflmejkigdiaaQV4
namespace Go.Proofs.Ytojflmejkigdiaa
open Go.RowKit
namespace Q
open H
set_option linter.unusedVariables false
set_option linter.unusedSimpArgs false
set_option maxRecDepth 100000
theorem cell_drw {W : World} {a : Addr} {v : Value} (h : W.cell? a = some v) : W.drew.cell? a = some v := h
theorem cell_under_drew {W : World} {a : Addr} {v : Value} (o : Obj) (h : W.cell? a = some v) : (W.alloc o).drew.cell? a = some v := cell_under o h
/-- The first one that is not 0. -/
def orI : List Int → Int
  | [] => 0
  | z :: zs => if z = 0 then orI zs else z
theorem orI_drop {zs : List Int} {k : Nat} {x : Int} (h : zs[k]? = some x) : orI (zs.drop k) = if x = 0 then orI (zs.drop (k + 1)) else x := by
  obtain ⟨hk, rfl⟩ := List.getElem?_eq_some_iff.1 h
  rw [List.drop_eq_getElem_cons hk]
  rfl
set_option maxHeartbeats 2000000 in
theorem or_any (A : Option Addr) (c B : Nat) (zs : List Int) (w : World) (hn : zs.length ≤ 140737488351232) (hr : RdI w B .i64 A zs) :
    Calls Try.prog 60 #[.slice A zs.length c] w fun e w' => e = .returned (.int .i64 (orI zs)) ∧ w' = w := by
  have HR := Lib.hid hr
  clear hr
  have HS := Lib.hid (fun k x (h : zs[k]? = some x) => orI_drop h)
  have HGET := Lib.hid (fun k (hk : k < zs.length) => (⟨zs[k], List.getElem?_eq_getElem hk⟩ : ∃ x, zs[k]? = some x))
  have HE : Hid (orI (zs.drop zs.length) = 0) := Lib.hid (by rw [List.drop_length]; rfl)
  generalize hlen : zs.length = n at *
  have HLN := Lib.hid hlen
  clear hlen
  have H0 : Hid (orI (zs.drop 0) = orI zs) := Lib.hid rfl
  generalize orI zs = res at *
  go_enter Try.func60, Try.ntmps60
  go_wp2_with fail
  go_loopg [8] n (fun g i wr => ∃ k : Nat, k + g = n ∧ i = .int .i64 (k : Nat) ∧ Hid (orI (zs.drop k) = res) ∧ wr = w)
  case atStart => exact ⟨0, Nat.zero_add _, rfl, H0, rfl⟩
  case round =>
    obtain ⟨k, hg, rfl, HT, rfl⟩ := hrel
    have HG := Lib.hid hg
    have hkn : k ≤ n := by omega
    clear hg
    by_cases hlt : k < n
    · have HLT := Lib.hid hlt
      obtain ⟨x, hx⟩ := HGET.out k hlt
      obtain ⟨ad, rfl, _, cx⟩ := HR.out k (by rw [HLN.out]; exact hlt)
      rw [hx] at cx
      dsimp only [Option.getD_some] at cx
      have hst := HS.out k x hx
      have hki : (k : Int) < (n : Int) := by omega
      clear hx hlt
      by_cases hxy : x = 0
      · rw [if_pos hxy] at hst
        have HN := Lib.hid (hst.symm.trans HT.out)
        clear hst
        go_wp2_with fail
        go_roundg (gk - 1)
        case measure => have := HG.out; have := HLT.out; omega
        case rel => exact ⟨k + 1, by have := HG.out; have := HLT.out; omega, by go_num, HN, rfl⟩
      · rw [if_neg hxy] at hst
        have HN := Lib.hid (hst.symm.trans HT.out)
        clear hst
        go_wp2_with fail
        go_ret
        exact ⟨by rw [HN.out]; rfl, rfl⟩
    · obtain rfl : k = n := by omega
      have HD := Lib.hid (HE.out.symm.trans HT.out)
      clear hlt
      go_wp2_with fail
      go_ret
      exact ⟨by rw [← HD.out]; rfl, rfl⟩
/-- The comparison of two windows. -/
def cmpW (v w : Wn) : Int := orI [Lib.compareInt v.fr w.fr, Lib.compareInt v.kind w.kind, Lib.compareInt v.a w.a, Lib.compareInt v.b w.b]
theorem cmp_neg (v w : Wn) : cmpW v w < 0 ↔ bef v w = true := by
  unfold cmpW bef Lib.compareInt orI orI orI orI orI
  simp only [decide_eq_true_eq]
  repeat' split
  all_goals omega
theorem cmp_bd (v w : Wn) : -1 ≤ cmpW v w ∧ cmpW v w ≤ 1 := by
  unfold cmpW Lib.compareInt orI orI orI orI orI
  repeat' split
  all_goals omega
set_option maxHeartbeats 4000000 in
theorem pcmp_any (v x : Wn) (w : World) : Calls Try.prog 36 #[v.v, x.v] w fun e w' => e = .returned (.int .i64 (cmpW v x)) ∧ Below w.heap.size w w' := by
  have H1 := Lib.hid (fun W => Try.cmp_Compare_int v.fr x.fr W)
  have H2 := Lib.hid (fun W => Try.cmp_Compare_int v.kind x.kind W)
  have H3 := Lib.hid (fun W => Try.cmp_Compare_int v.a x.a W)
  have H4 := Lib.hid (fun W => Try.cmp_Compare_int v.b x.b W)
  have hv : cmpW v x = orI [Lib.compareInt v.fr x.fr, Lib.compareInt v.kind x.kind, Lib.compareInt v.a x.a, Lib.compareInt v.b x.b] := rfl
  generalize Lib.compareInt v.fr x.fr = d1 at *
  generalize Lib.compareInt v.kind x.kind = d2 at *
  generalize Lib.compareInt v.a x.a = d3 at *
  generalize Lib.compareInt v.b x.b = d4 at *
  rw [hv]
  clear hv
  have HO : Hid (∀ W : World, Calls Try.prog 60 #[.slice (some ⟨W.heap.size, 0, none⟩) 4 4] (W.alloc (.cells #[.int .i64 d1, .int .i64 d2, .int .i64 d3, .int .i64 d4] 3)).drew fun e w' => e = .returned (.int .i64 (orI [d1, d2, d3, d4])) ∧ w' = (W.alloc (.cells #[.int .i64 d1, .int .i64 d2, .int .i64 d3, .int .i64 d4] 3)).drew) := Lib.hid (fun (W : World) => or_any (some ⟨W.heap.size, 0, none⟩) 4 _ [d1, d2, d3, d4] (W.alloc (.cells #[.int .i64 d1, .int .i64 d2, .int .i64 d3, .int .i64 d4] 3)).drew (by simp) ((RdI_lit W .i64 3 #[.int .i64 d1, .int .i64 d2, .int .i64 d3, .int .i64 d4] [d1, d2, d3, d4] rfl).below (below_drew _)))
  generalize orI [d1, d2, d3, d4] = res at *
  have N1 := (Bx.new w v 31).alloc (.cells #[.int .i64 x.kind, .int .i64 x.a, .int .i64 x.b, .int .i64 x.fr, .int .i64 x.un, .int .i64 x.rate] 31)
  have N2 := Bx.new (w.alloc (.cells #[.int .i64 v.kind, .int .i64 v.a, .int .i64 v.b, .int .i64 v.fr, .int .i64 v.un, .int .i64 v.rate] 31)) x 31
  rw [World.size_alloc] at N2
  go_enter Try.func36, Try.ntmps36
  go_wp2_with fail
  have m0 := N1.c0
  have m1 := N1.c1
  have m2 := N1.c2
  have m3 := N1.c3
  have k0 := N2.c0
  have k1 := N2.c1
  have k2 := N2.c2
  have k3 := N2.c3
  clear N1 N2
  have HB := Lib.hid (bel2 w (.cells #[.int .i64 v.kind, .int .i64 v.a, .int .i64 v.b, .int .i64 v.fr, .int .i64 v.un, .int .i64 v.rate] 31) (.cells #[.int .i64 x.kind, .int .i64 x.a, .int .i64 x.b, .int .i64 x.fr, .int .i64 x.un, .int .i64 x.rate] 31))
  generalize (w.alloc (.cells #[.int .i64 v.kind, .int .i64 v.a, .int .i64 v.b, .int .i64 v.fr, .int .i64 v.un, .int .i64 v.rate] 31)).alloc (.cells #[.int .i64 x.kind, .int .i64 x.a, .int .i64 x.b, .int .i64 x.fr, .int .i64 x.un, .int .i64 x.rate] 31) = W0 at *
  go_region_held3 (fun W => (W.cell? ⟨w.heap.size, 0, none⟩ = some (.int .i64 v.kind) ∧ W.cell? ⟨w.heap.size, 1, none⟩ = some (.int .i64 v.a) ∧ W.cell? ⟨w.heap.size, 2, none⟩ = some (.int .i64 v.b) ∧ W.cell? ⟨w.heap.size, 3, none⟩ = some (.int .i64 v.fr)) ∧ (W.cell? ⟨w.heap.size + 1, 0, none⟩ = some (.int .i64 x.kind) ∧ W.cell? ⟨w.heap.size + 1, 1, none⟩ = some (.int .i64 x.a) ∧ W.cell? ⟨w.heap.size + 1, 2, none⟩ = some (.int .i64 x.b) ∧ W.cell? ⟨w.heap.size + 1, 3, none⟩ = some (.int .i64 x.fr)))
    (with_reducible (first | exact ⟨⟨cell_drw m0, cell_drw m1, cell_drw m2, cell_drw m3⟩, ⟨cell_drw k0, cell_drw k1, cell_drw k2, cell_drw k3⟩⟩ | exact ⟨⟨cell_under_drew _ m0, cell_under_drew _ m1, cell_under_drew _ m2, cell_under_drew _ m3⟩, ⟨cell_under_drew _ k0, cell_under_drew _ k1, cell_under_drew _ k2, cell_under_drew _ k3⟩⟩))
    ((first
      | (go_at_call 61; with_reducible refine (H1.out _).mono ?_; rintro e w2 ⟨rfl, rfl⟩)
      | (go_at_call 61; with_reducible refine (H2.out _).mono ?_; rintro e w2 ⟨rfl, rfl⟩)
      | (go_at_call 61; with_reducible refine (H3.out _).mono ?_; rintro e w2 ⟨rfl, rfl⟩)
      | (go_at_call 61; with_reducible refine (H4.out _).mono ?_; rintro e w2 ⟨rfl, rfl⟩)
      | (go_at_call 60; with_reducible refine (HO.out _).mono ?_; rintro e w2 ⟨rfl, rfl⟩)))
  all_goals go_wp2_with fail
  all_goals go_ret
  all_goals exact ⟨rfl, bt HB.out (bt (bel1 W0 _) (below_drew _))⟩
/-- Is it sorted, from the end down to place k? -/
def srt (t : List Wn) : Bool := (List.range (t.length - 1)).all fun i => match t[i + 1]?, t[i]? with | some x, some y => !bef x y | _, _ => true
theorem srt_iff (t : List Wn) : srt t = true ↔ ∀ i x y, t[i + 1]? = some x → t[i]? = some y → bef x y = false := by
  unfold srt
  rw [List.all_eq_true]
  constructor
  · intro h i x y hx hy
    have hi : i < t.length - 1 := by have := (List.getElem?_eq_some_iff.1 hx).1; omega
    have := h i (List.mem_range.2 hi)
    rw [hx, hy] at this
    simpa using this
  · intro h i hi
    cases hx : t[i + 1]? with
    | none => simp
    | some x =>
      cases hy : t[i]? with
      | none => simp
      | some y => simpa using h i x y hx hy
set_option maxHeartbeats 4000000 in
theorem psorted_any (t : List Wn) (A : Option Addr) (c B : Nat) (w : World) (hB : B ≤ w.heap.size) (hn : t.length ≤ 140737488351232) (hr : RdsWn w B A t) :
    Calls Try.prog 35 #[.slice A t.length c, .func (.func 36) #[] #[]] w fun e w' => e = .returned (.bool (srt t)) ∧ Below w.heap.size w w' := by
  have HR := Lib.hid hr
  clear hr
  have HC := Lib.hid (fun v x W => pcmp_any v x W)
  have HYES : Hid ((∀ i x y, 0 ≤ i → t[i + 1]? = some x → t[i]? = some y → bef x y = false) → srt t = true) := Lib.hid (fun h => (srt_iff t).2 fun i x y => h i x y (Nat.zero_le _))
  have HNO : Hid (∀ i x y, t[i + 1]? = some x → t[i]? = some y → bef x y = true → srt t = false) := Lib.hid (fun i x y hx hy hb => by
    cases h : srt t with
    | false => rfl
    | true => rw [(srt_iff t).1 h i x y hx hy] at hb; cases hb)
  have HGET := Lib.hid (fun k (hk : k < t.length) => (⟨t[k], List.getElem?_eq_getElem hk⟩ : ∃ x, t[k]? = some x))
  have HEND : Hid (∀ i x, t[i]? = some x → i < t.length) := Lib.hid (fun i x h => (List.getElem?_eq_some_iff.1 h).1)
  generalize hlen : t.length = n at *
  have HLN := Lib.hid hlen
  clear hlen
  generalize srt t = res at *
  go_enter Try.func35, Try.ntmps35
  go_wp2_with fail
  go_loopg [5] n (fun g i wr => ∃ k : Nat, k = g ∧ k ≤ n ∧ i = .int .i64 (((k : Nat) : Int) - 1) ∧ Hid (∀ i x y, k ≤ i + 1 → t[i + 1]? = some x → t[i]? = some y → bef x y = false) ∧ Below w.heap.size w wr)
  case atStart => exact ⟨n, rfl, Nat.le_refl _, rfl, Lib.hid (fun i x y hi hx hy => absurd (HEND.out _ _ hx) (by omega)), Below.refl _ _⟩
  case round =>
    obtain ⟨k, hg, hkn, rfl, HT, hB2⟩ := hrel
    have BEL := Lib.hid hB2
    have HG := Lib.hid hg
    clear hg hB2
    match k, hkn, HT, HG with
    | 0, hkn, HT, HG =>
      have HD := Lib.hid (HYES.out fun i x y _ => HT.out i x y (by omega))
      rw [show ((0 : Nat) : Int) - 1 = -1 by omega]
      go_wp2_with fail
      go_ret
      exact ⟨by rw [HD.out]; rfl, BEL.out⟩
    | 1, hkn, HT, HG =>
      have HD := Lib.hid (HYES.out fun i x y _ => HT.out i x y (by omega))
      rw [show ((1 : Nat) : Int) - 1 = 0 by omega]
      go_wp2_with fail
      go_ret
      exact ⟨by rw [HD.out]; rfl, BEL.out⟩
    | j + 2, hkn, HT, HG =>
      obtain ⟨p, hp⟩ : ∃ p, p = j + 1 := ⟨_, rfl⟩
      rw [show ((j + 2 : Nat) : Int) - 1 = ((p : Nat) : Int) by omega]
      have hj0 : (0 : Int) < (p : Int) := by omega
      have hj1 : (1 : Int) ≤ (p : Int) := by omega
      have hj2 : (p : Int) < (n : Int) := by omega
      have hj3 : (p : Int) ≤ (n : Int) := by omega
      have hj6 : p ≤ n := by omega
      have hj7 : 0 < p := by omega
      have hj8 : 1 ≤ p := by omega
      have hjw : IntKind.i64.wrap ((p : Int) - 1) = (p : Int) - 1 := IntWalk.i64_in _ (by omega)
      have hj4 : (0 : Int) ≤ (p : Int) - 1 := by omega
      have hj5 : (p : Int) - 1 < (n : Int) := by omega
      have hjt : ((p : Int) - 1).toNat = p - 1 := by omega
      have hjp : j = p - 1 := by omega
      have HP := Lib.hid hp
      obtain ⟨x, hx⟩ := HGET.out (j + 1) (by omega)
      obtain ⟨y, hy⟩ := HGET.out j (by omega)
      obtain ⟨ad, rfl, had, hrx⟩ := HR.out.below (BEL.out.mono hB) (j + 1) x hx
      rw [← hp] at hrx
      obtain ⟨ad2, hA2, had2, hry⟩ := HR.out.below (BEL.out.mono hB) j y hy
      rw [hjp] at hry
      obtain rfl := Option.some.inj hA2
      have HBF : Hid (bef x y = true → res = false) := Lib.hid (HNO.out j x y hx hy)
      have HBT : Hid (bef x y = false → ∀ i x y, j + 1 ≤ i + 1 → t[i + 1]? = some x → t[i]? = some y → bef x y = false) := Lib.hid (fun hb i x' y' hi hx' hy' => by
        rcases Nat.lt_or_ge j i with h | h
        · exact HT.out i x' y' (by omega) hx' hy'
        · obtain rfl : i = j := by omega
          rw [hx] at hx'; rw [hy] at hy'
          obtain rfl := Option.some.inj hx'
          obtain rfl := Option.some.inj hy'
          exact hb)
      have hcn := cmp_neg x y
      have hcb := cmp_bd x y
      have c0 := hrx.c0
      have c1 := hrx.c1
      have c2 := hrx.c2
      have c3 := hrx.c3
      have c4 := hrx.c4
      have c5 := hrx.c5
      have d0 := hry.c0
      have d1 := hry.c1
      have d2 := hry.c2
      have d3 := hry.c3
      have d4 := hry.c4
      have d5 := hry.c5
      have HC1 := Lib.hid (fun W => HC.out x y W)
      clear hrx hry hx hy had had2 HT hp hkn hjp
      cases hb : bef x y with
      | true =>
        have HD := Lib.hid (HBF.out hb)
        rw [hb] at hcn
        have hneg : cmpW x y < 0 := hcn.2 rfl
        clear hcn hb
        generalize cmpW x y = cv at *
        go_wp2_with fail
        go_region_held3 (fun W => W.cell? (ad.add (p * 6)) = some (.int .i64 x.kind) ∧ W.cell? ⟨(ad.add (p * 6)).block, (ad.add (p * 6)).off + 1, none⟩ = some (.int .i64 x.a) ∧ W.cell? ⟨(ad.add (p * 6)).block, (ad.add (p * 6)).off + 2, none⟩ = some (.int .i64 x.b) ∧ W.cell? ⟨(ad.add (p * 6)).block, (ad.add (p * 6)).off + 3, none⟩ = some (.int .i64 x.fr) ∧ W.cell? ⟨(ad.add (p * 6)).block, (ad.add (p * 6)).off + 4, none⟩ = some (.int .i64 x.un) ∧ W.cell? ⟨(ad.add (p * 6)).block, (ad.add (p * 6)).off + 5, none⟩ = some (.int .i64 x.rate) ∧ W.cell? (ad.add ((p - 1) * 6)) = some (.int .i64 y.kind) ∧ W.cell? ⟨(ad.add ((p - 1) * 6)).block, (ad.add ((p - 1) * 6)).off + 1, none⟩ = some (.int .i64 y.a) ∧ W.cell? ⟨(ad.add ((p - 1) * 6)).block, (ad.add ((p - 1) * 6)).off + 2, none⟩ = some (.int .i64 y.b) ∧ W.cell? ⟨(ad.add ((p - 1) * 6)).block, (ad.add ((p - 1) * 6)).off + 3, none⟩ = some (.int .i64 y.fr) ∧ W.cell? ⟨(ad.add ((p - 1) * 6)).block, (ad.add ((p - 1) * 6)).off + 4, none⟩ = some (.int .i64 y.un) ∧ W.cell? ⟨(ad.add ((p - 1) * 6)).block, (ad.add ((p - 1) * 6)).off + 5, none⟩ = some (.int .i64 y.rate)) (with_reducible (first | exact ⟨cell_drw c0, cell_drw c1, cell_drw c2, cell_drw c3, cell_drw c4, cell_drw c5, cell_drw d0, cell_drw d1, cell_drw d2, cell_drw d3, cell_drw d4, cell_drw d5⟩ | exact ⟨below_cell hB3 (cell_drw c0), below_cell hB3 (cell_drw c1), below_cell hB3 (cell_drw c2), below_cell hB3 (cell_drw c3), below_cell hB3 (cell_drw c4), below_cell hB3 (cell_drw c5), below_cell hB3 (cell_drw d0), below_cell hB3 (cell_drw d1), below_cell hB3 (cell_drw d2), below_cell hB3 (cell_drw d3), below_cell hB3 (cell_drw d4), below_cell hB3 (cell_drw d5)⟩))
            ((go_at_call 36; with_reducible refine (HC1.out _).mono ?_; rintro e w3 ⟨rfl, hB3⟩))
        all_goals go_wp2_with fail
        all_goals go_ret
        all_goals exact ⟨by rw [HD.out]; rfl, BEL.out.trans ((bt (below_drew _) hB3).mono BEL.out.size)⟩
      | false =>
        have HD := Lib.hid (HBT.out hb)
        rw [hb] at hcn
        have hneg : ¬ cmpW x y < 0 := fun h => by cases hcn.1 h
        clear hcn hb
        generalize cmpW x y = cv at *
        go_wp2_with fail
        go_region_held3 (fun W => W.cell? (ad.add (p * 6)) = some (.int .i64 x.kind) ∧ W.cell? ⟨(ad.add (p * 6)).block, (ad.add (p * 6)).off + 1, none⟩ = some (.int .i64 x.a) ∧ W.cell? ⟨(ad.add (p * 6)).block, (ad.add (p * 6)).off + 2, none⟩ = some (.int .i64 x.b) ∧ W.cell? ⟨(ad.add (p * 6)).block, (ad.add (p * 6)).off + 3, none⟩ = some (.int .i64 x.fr) ∧ W.cell? ⟨(ad.add (p * 6)).block, (ad.add (p * 6)).off + 4, none⟩ = some (.int .i64 x.un) ∧ W.cell? ⟨(ad.add (p * 6)).block, (ad.add (p * 6)).off + 5, none⟩ = some (.int .i64 x.rate) ∧ W.cell? (ad.add ((p - 1) * 6)) = some (.int .i64 y.kind) ∧ W.cell? ⟨(ad.add ((p - 1) * 6)).block, (ad.add ((p - 1) * 6)).off + 1, none⟩ = some (.int .i64 y.a) ∧ W.cell? ⟨(ad.add ((p - 1) * 6)).block, (ad.add ((p - 1) * 6)).off + 2, none⟩ = some (.int .i64 y.b) ∧ W.cell? ⟨(ad.add ((p - 1) * 6)).block, (ad.add ((p - 1) * 6)).off + 3, none⟩ = some (.int .i64 y.fr) ∧ W.cell? ⟨(ad.add ((p - 1) * 6)).block, (ad.add ((p - 1) * 6)).off + 4, none⟩ = some (.int .i64 y.un) ∧ W.cell? ⟨(ad.add ((p - 1) * 6)).block, (ad.add ((p - 1) * 6)).off + 5, none⟩ = some (.int .i64 y.rate)) (with_reducible (first | exact ⟨cell_drw c0, cell_drw c1, cell_drw c2, cell_drw c3, cell_drw c4, cell_drw c5, cell_drw d0, cell_drw d1, cell_drw d2, cell_drw d3, cell_drw d4, cell_drw d5⟩ | exact ⟨below_cell hB3 (cell_drw c0), below_cell hB3 (cell_drw c1), below_cell hB3 (cell_drw c2), below_cell hB3 (cell_drw c3), below_cell hB3 (cell_drw c4), below_cell hB3 (cell_drw c5), below_cell hB3 (cell_drw d0), below_cell hB3 (cell_drw d1), below_cell hB3 (cell_drw d2), below_cell hB3 (cell_drw d3), below_cell hB3 (cell_drw d4), below_cell hB3 (cell_drw d5)⟩))
            ((go_at_call 36; with_reducible refine (HC1.out _).mono ?_; rintro e w3 ⟨rfl, hB3⟩))
        all_goals go_wp2_with fail
        all_goals go_roundg (gk - 1)
        case measure => have := HG.out; omega
        case rel => exact ⟨j + 1, by have := HG.out; omega, by have := HP.out; omega, by have := HP.out; congr 1; omega, HD, BEL.out.trans ((bt (below_drew _) hB3).mono BEL.out.size)⟩
end Q
end Go.Proofs.Ytojflmejkigdiaa
