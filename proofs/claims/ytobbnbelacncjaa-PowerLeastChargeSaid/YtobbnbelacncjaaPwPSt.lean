/-
  The landed Step.
-/
import Derived.Test.YtobbnbelacncjaaPwSrtd
import Derived.Test.YtobbnbelacncjaaPwStp
namespace Go.Proofs.Ytobbnbelacncjaa
open Go.RowKit
namespace Pw
open H
set_option linter.unusedVariables false
set_option linter.unusedSimpArgs false
set_option maxRecDepth 100000
theorem Sb.rd2 {w w5 W : World} {bc cg br ga us sp : Int} {v : Value} {bo : Bool} (h : Sb w w5 W bc cg br ga us sp v bo) {ad : Addr} {x : Ld} (h1 : w.heap.size + 1 + 1 + 1 + 1 ≤ ad.block) (h2 : ad.block < w5.heap.size) (hr : RdLd w5 ad x) : RdLd W ad x := h.rd h1 h2 hr
theorem Lb.call {W V : World} {b : Nat} {x : Ld} (h : Lb W b x) (hB : Below W.heap.size W V) : Lb V b x := heap_keep hB h
theorem Lb.oth {W : World} {b b' i : Nat} {x : Ld} (v : Value) (h : Lb W b x) (hne : b ≠ b') : Lb (W.setCell ⟨b', i, none⟩ v) b x := hoth v h hne
theorem turn_yes {br : Int} {s : St} {x : Ld} (h : (if x.ess = true then 0 else br) ≤ s.chg - x.pow) : turn br s x = ⟨s.chg - x.pow, s.used + x.pow, s.ids ++ [x.id], s.br⟩ := by
  unfold turn
  cases he : x.ess <;> simp only [he, if_true, Bool.false_eq_true, if_false] at h ⊢
  · rw [if_neg (by omega)]
  · rw [if_neg (by omega)]
theorem turn_no1 {br : Int} {s : St} {x : Ld} (he : x.ess = true) (h : ¬ (if x.ess = true then 0 else br) ≤ s.chg - x.pow) : turn br s x = ⟨s.chg, s.used, s.ids, true⟩ := by
  unfold turn
  rw [if_pos he] at h ⊢
  rw [if_pos (by omega)]
theorem turn_no2 {br : Int} {s : St} {x : Ld} (he : x.ess = false) (h : ¬ (if x.ess = true then 0 else br) ≤ s.chg - x.pow) : turn br s x = s := by
  unfold turn
  rw [if_neg (by rw [he]; simp)] at h ⊢
  rw [if_pos (by omega)]
set_option maxHeartbeats 4000000 in
theorem pstep_any (b : Bt) (gain : Int) (T : List Ld) (A : Option Addr) (cap B : Nat) (w : World) (hB : B ≤ w.heap.size) (hlen : T.length ≤ 1000) (hb : b.ok = true) (hg : 0 ≤ gain ∧ gain ≤ 2147483647) (hT : ∀ x ∈ T, 0 ≤ x.pow ∧ x.pow ≤ 2147483647) (hR : RdsLd w B A T) (hd : Dif T) :
    Calls Try.prog 18 #[b.v, .int .i64 gain, .slice A T.length cap] w fun e w' => ∃ A1 c1, e = .returned (.tuple #[.agg #[.int .i64 b.cap, .int .i64 (tickS b gain T).chg, .int .i64 b.res], .agg #[.int .i64 (gained b gain), .int .i64 (tickS b gain T).used, .int .i64 (gain - gained b gain), .slice A1 (tickS b gain T).ids.length c1, .bool (tickS b gain T).br]]) ∧ RdI w' w'.heap.size .i64 A1 (tickS b gain T).ids ∧ Below w.heap.size w w' := by
  have HSV := Lib.hid (fun W => pserv_any W)
  have HVL := Lib.hid (fun W => pvals_any A T.length cap W)
  have HUT := Lib.hid (fun (b : Bt) (x : Ld) W => puntouched_any b x W)
  have HO : Hid (∀ W Bt lo v, Below w.heap.size w W → Q.Sb W Bt (.slice A T.length cap) → CmpAt lo W v cmpL → Calls Try.prog 37 #[.func (.func 53) #[] #[bp Bt], v] W fun e w' => ∃ A' c, e = .returned (.slice A' (ord T).length c) ∧ RdsLd w' w'.heap.size A' (ord T) ∧ (∀ ad, A' = some ad → 0 < (ord T).length → W.heap.size ≤ ad.block) ∧ Below W.heap.size W w') := Lib.hid (fun W Bt lo v hW hb hc => psorted_any T A cap B Bt lo v W (Nat.le_trans hB hW.size) hlen hb (hR.below (hW.mono hB)) hc hd)
  have hbk := hb
  unfold Bt.ok at hbk
  simp only [decide_eq_true_eq] at hbk
  have HS0 := Lib.hid (st0_ok hb hg.1)
  have HTS : Hid (tickS b gain T = run b.res (st0 b gain) (ord T)) := Lib.hid rfl
  have HPW : Hid (∀ x ∈ ord T, 0 ≤ x.pow ∧ x.pow ≤ 2147483647) := Lib.hid (fun x hx => hT x (mem_ord.1 hx))
  have HOL : Hid ((ord T).length ≤ 1000) := Lib.hid (by rw [ord_len]; exact hlen)
  have hga : gained b gain = min gain (b.cap - b.chg) := rfl
  have hs0 : st0 b gain = ⟨b.chg + gained b gain, 0, [], false⟩ := rfl
  clear hT hR hb hd
  obtain ⟨bc, bg, br⟩ := b
  dsimp only at *
  generalize gained ⟨bc, bg, br⟩ gain = ga at *
  generalize T.length = tl at *
  generalize ord T = L at *
  generalize tickS ⟨bc, bg, br⟩ gain T = R at *
  have hmin : min gain (bc - bg) = ga := hga.symm
  have hga0 : 0 ≤ ga ∧ ga ≤ gain ∧ bg + ga ≤ bc := by omega
  clear hga
  have hif : (if bc - bg < gain then bc - bg else gain) = ga := by
    rw [← hmin]
    split <;> omega
  have HSTP : Hid (∀ (q : Nat) (x : Ld), L[q]? = some x → run br (st0 ⟨bc, bg, br⟩ gain) (L.take (q + 1)) = turn br (run br (st0 ⟨bc, bg, br⟩ gain) (L.take q)) x) := Lib.hid (fun q x h => run_step h)
  have HSOK : Hid (∀ q, StOk bc ((L.take q).length) (run br (st0 ⟨bc, bg, br⟩ gain) (L.take q))) := Lib.hid (fun q => by have h := run_ok (res := br) (s := st0 ⟨bc, bg, br⟩ gain) (by omega) (fun x hx => HPW.out x (List.mem_of_mem_take hx)) HS0.out (L := L.take q); rwa [Nat.zero_add] at h)
  have HPX : Hid (∀ (q : Nat) (x : Ld), L[q]? = some x → 0 ≤ x.pow ∧ x.pow ≤ 2147483647) := Lib.hid (fun q x h => HPW.out x (List.mem_of_getElem? h))
  have HZ : Hid (run br (st0 ⟨bc, bg, br⟩ gain) (L.take 0) = ⟨bg + ga, 0, [], false⟩) := Lib.hid hs0
  have HALL : Hid (run br (st0 ⟨bc, bg, br⟩ gain) (L.take L.length) = R) := Lib.hid (by rw [List.take_length]; exact HTS.out.symm)
  obtain ⟨F, HF⟩ : ∃ F : Nat → St, Hid (∀ q, run br (st0 ⟨bc, bg, br⟩ gain) (L.take q) = F q) := ⟨_, Lib.hid fun q => rfl⟩
  replace HSTP : Hid (∀ (q : Nat) (x : Ld), L[q]? = some x → F (q + 1) = turn br (F q) x) := Lib.hid (fun q x h => by rw [← HF.out, ← HF.out]; exact HSTP.out q x h)
  replace HSOK : Hid (∀ q, (0 ≤ (F q).chg ∧ (F q).chg ≤ bc) ∧ (0 ≤ (F q).used ∧ (F q).used ≤ 2147483647000) ∧ (F q).ids.length ≤ 1000) := Lib.hid (fun q => by
    have h := HSOK.out q
    rw [HF.out] at h
    have h2 : (L.take q).length ≤ 1000 := by rw [List.length_take]; have := HOL.out; omega
    obtain ⟨h3, h4, h5⟩ := h
    exact ⟨h3, by omega, by omega⟩)
  replace HZ : Hid (F 0 = ⟨bg + ga, 0, [], false⟩) := Lib.hid (by rw [← HF.out]; exact HZ.out)
  replace HALL : Hid (F L.length = R) := Lib.hid (by rw [← HF.out]; exact HALL.out)
  obtain ⟨i0, hi, hz0, hz1, hz2⟩ := info_parts infoI
  clear HF HS0 HTS HPW hs0
  go_enter Try.func18, Try.ntmps18
  go_upto_region 4 with fail
  try simp only [hmin]
  clear hmin
  obtain ⟨W4, hW4⟩ : ∃ W4, W4 = ((((w.alloc (Obj.cells #[.int .i64 bc, .int .i64 (bg + ga), .int .i64 br] 23)).alloc (Obj.cells #[.int .i64 0, .int .i64 0, .int .i64 0] 23)).alloc (Obj.cells #[.int .i64 0, .int .i64 0, .int .i64 0, .slice none 0 0, .bool false] 33)).alloc (Obj.cells #[.int .i64 ga, .int .i64 0, .int .i64 (gain - ga), .slice none 0 0, .bool false] 33)) := ⟨_, rfl⟩
  rw [← hW4]
  have hs4 : W4.heap.size = w.heap.size + 1 + 1 + 1 + 1 := by rw [hW4]; simp
  have B4 : Hid (Below w.heap.size w W4) := Lib.hid (by rw [hW4]; exact bt (bel2 w _ _) (bel2 _ _ _))
  have h40 : W4.heap[w.heap.size]? = some (.cells #[.int .i64 bc, .int .i64 (bg + ga), .int .i64 br] 23 (0, 0)) := by rw [hW4]; exact heap_keep (bel1 _ _) (heap_keep (bel1 _ _) (heap_keep (bel1 _ _) (heap_top w _)))
  have h41 : W4.heap[w.heap.size + 1]? = some (.cells #[.int .i64 0, .int .i64 0, .int .i64 0] 23 (0, 0)) := by rw [hW4]; have h := heap_keep (bel1 _ (Obj.cells #[.int .i64 ga, .int .i64 0, .int .i64 (gain - ga), .slice none 0 0, .bool false] 33)) (heap_keep (bel1 _ (Obj.cells #[.int .i64 0, .int .i64 0, .int .i64 0, .slice none 0 0, .bool false] 33)) (heap_top (w.alloc (Obj.cells #[.int .i64 bc, .int .i64 (bg + ga), .int .i64 br] 23)) (Obj.cells #[.int .i64 0, .int .i64 0, .int .i64 0] 23))); rwa [World.size_alloc] at h
  have h42 : W4.heap[w.heap.size + 1 + 1]? = some (.cells #[.int .i64 0, .int .i64 0, .int .i64 0, .slice none 0 0, .bool false] 33 (0, 0)) := by rw [hW4]; have h := heap_keep (bel1 _ (Obj.cells #[.int .i64 ga, .int .i64 0, .int .i64 (gain - ga), .slice none 0 0, .bool false] 33)) (heap_top ((w.alloc (Obj.cells #[.int .i64 bc, .int .i64 (bg + ga), .int .i64 br] 23)).alloc (Obj.cells #[.int .i64 0, .int .i64 0, .int .i64 0] 23)) (Obj.cells #[.int .i64 0, .int .i64 0, .int .i64 0, .slice none 0 0, .bool false] 33)); rwa [World.size_alloc, World.size_alloc] at h
  have h43 : W4.heap[w.heap.size + 1 + 1 + 1]? = some (.cells #[.int .i64 ga, .int .i64 0, .int .i64 (gain - ga), .slice none 0 0, .bool false] 33 (0, 0)) := by rw [hW4]; have h := heap_top (((w.alloc (Obj.cells #[.int .i64 bc, .int .i64 (bg + ga), .int .i64 br] 23)).alloc (Obj.cells #[.int .i64 0, .int .i64 0, .int .i64 0] 23)).alloc (Obj.cells #[.int .i64 0, .int .i64 0, .int .i64 0, .slice none 0 0, .bool false] 33)) (Obj.cells #[.int .i64 ga, .int .i64 0, .int .i64 (gain - ga), .slice none 0 0, .bool false] 33); rwa [World.size_alloc, World.size_alloc, World.size_alloc] at h
  clear hW4
  have hfd : ∀ (g : Nat) (cb : Array Value) (w : World), (Instr.field 72 (.agg #[.func (.func g) #[] cb]) 0).run Try.prog w = .ok (.func (.func g) #[] cb) w := fun _ _ _ => by kernel_rfl
  go_upto_region 5 with (first
    | (go_at_call 38; refine (HVL.out _).mono ?_; rintro e w1 ⟨rfl, hs1, hb1, hz1'⟩; rw [hs4] at hs1; have HS1 := Lib.hid hs1; have HB1 := Lib.hid hb1; clear hs1 hb1 hz1')
    | (go_at_call 39; refine (HSV.out _).mono ?_; rintro e w2 ⟨v2, rfl, hc2, hb2⟩; have HC2 := Lib.hid hc2; have HB2 := Lib.hid hb2; obtain ⟨g2, cb2, rfl, _, _⟩ := hc2; clear hb2)
    | (go_at_call 37; with_reducible refine (HO.out w2 _ _ _ (bt B4.out (bt HB1.out HB2.out)) (HS1.out.call HB2.out) HC2.out).mono ?_; rintro e w5 ⟨A5, c5, rfl, hO5, hA5, hB5'⟩; have hB5 := bt HB1.out (bt HB2.out hB5')))
  have HRD : Hid (∀ j x, L[j]? = some x → ∃ ad, A5 = some ad ∧ ad.block < w5.heap.size ∧ RdLd w5 (ad.add (j * 4)) x) := Lib.hid hO5
  have SB5 : Sb w w5 w5 bc (bg + ga) br ga 0 (gain - ga) (.slice none 0 0) false := ⟨heap_keep hB5 h40, heap_keep hB5 h41, heap_keep hB5 h42, heap_keep hB5 h43, B4.out.trans (hB5.mono B4.out.size), by have := hB5.size; omega, Nat.le_refl _, fun _ _ _ => rfl⟩
  have HSB5 := Lib.hid SB5
  have H4S := Lib.hid hs4
  have HAD : Hid (∀ j x, L[j]? = some x → ∃ ad, A5 = some ad ∧ w.heap.size + 1 + 1 + 1 + 1 ≤ ad.block ∧ ad.block < w5.heap.size ∧ RdLd w5 (ad.add (j * 4)) x) := Lib.hid (fun j x hx => by obtain ⟨ad, h1, h2, h3⟩ := HRD.out j x hx; exact ⟨ad, h1, by have := hA5 ad h1 (Nat.lt_of_le_of_lt (Nat.zero_le _) (List.getElem?_eq_some_iff.1 hx).1); have := HB1.out.size; have := HB2.out.size; omega, h2, h3⟩)
  clear hfd hO5 hA5 hB5 hB5' h40 h41 h42 h43 SB5 B4 hif hs4 HB1 HB2 HS1 HC2 HO HSV HVL
  have HGET := Lib.hid (fun k (hk : k < L.length) => (⟨L[k], List.getElem?_eq_getElem hk⟩ : ∃ x, L[k]? = some x))
  have hlen5 := HOL.out
  generalize L.length = len at *
  go_loopg [35] len (fun g i wr => ∃ (q : Nat) (v : Value), q + g = len ∧ i = .int .i64 (q : Nat) ∧ Sb w w5 wr bc (F q).chg br ga (F q).used (gain - ga) v (F q).br ∧ wr.ownsRow w5.heap.size 3 1 v (F q).ids.length (ints (F q).ids))
  case atStart => exact ⟨0, .slice none 0 0, Nat.zero_add _, rfl, by rw [HZ.out]; exact HSB5.out, by rw [HZ.out]; exact World.ownsRow_nil _ _ _ _⟩
  case round =>
    obtain ⟨q, v, hg', rfl, hsb, hO⟩ := hrel
    have HG := Lib.hid hg'
    have SBW := Lib.hid hsb
    have HO := Lib.hid hO
    have hqn : q ≤ len := by omega
    clear hg' HSB5 HZ
    by_cases hlt : q < len
    · have HLT := Lib.hid hlt
      have hqi : (q : Int) < (len : Int) := by omega
      obtain ⟨x, hx⟩ := HGET.out q hlt
      obtain ⟨ad, rfl, had, had2, hr5⟩ := HAD.out q x hx
      have hab : w.heap.size + 1 + 1 + 1 + 1 ≤ (ad.add (q * 4)).block := by rw [add_block]; exact had
      have hab2 : (ad.add (q * 4)).block < w5.heap.size := by rw [add_block]; exact had2
      have hpw := HPX.out q x hx
      have hok := HSOK.out q
      have HSX := Lib.hid (HSTP.out q x hx)
      obtain ⟨r0, r1, r2, r3⟩ := hsb.rd hab hab2 hr5
      have HLE := Lib.hid hsb.le
      have HLT5 := Lib.hid hsb.lt
      clear hx had had2 hlt hsb hO hr5
      generalize F q = sq at *
      go_upto_region 7 with fail
      obtain ⟨W1, hW1⟩ : ∃ W1, W1 = wr.alloc (.cells #[.int .i64 x.id, .int .i64 x.pow, .int .i64 x.pri, .bool x.ess] 41) := ⟨_, rfl⟩
      rw [← hW1]
      have LB1 : Lb W1 wr.heap.size x := by rw [hW1]; exact Lb.new wr x
      have SB1 : Sb w w5 W1 bc sq.chg br ga sq.used (gain - ga) v sq.br := by rw [hW1]; exact SBW.out.call ((bel1 wr _).mono HLE.out)
      have HO1 : Hid (W1.ownsRow w5.heap.size 3 1 v sq.ids.length (ints sq.ids)) := Lib.hid (by rw [hW1]; exact own_kept_below HO.out (bel1 wr _))
      clear hW1 r0 r1 r2 r3
      obtain ⟨n1, hn1e⟩ : ∃ n1, n1 = wr.heap.size := ⟨_, rfl⟩
      rw [← hn1e] at LB1 ⊢
      have hn1 : w5.heap.size ≤ n1 := by rw [hn1e]; exact HLE.out
      have hn4 : w.heap.size + 1 + 1 + 1 + 1 ≤ n1 := Nat.le_trans HLT5.out hn1
      have LBW := Lib.hid LB1
      have SBW1 := Lib.hid SB1
      have HN1 := Lib.hid hn1
      clear hn1e
      obtain ⟨r0, r1, r2, r3⟩ := LB1.cells
      obtain ⟨k0, k1, k2⟩ := SB1.c0
      obtain ⟨un, hun⟩ : ∃ un : Int, un = if x.ess = true then 0 else br := ⟨_, rfl⟩
      have HUN := Lib.hid hun
      have hun0 : 0 ≤ un := by rw [hun]; split <;> omega
      have SALL0 : (((W1.drew.cell? ⟨w.heap.size, 0, none⟩ = some (.int .i64 bc) ∧ W1.drew.cell? ⟨w.heap.size, 1, none⟩ = some (.int .i64 sq.chg) ∧ W1.drew.cell? ⟨w.heap.size, 2, none⟩ = some (.int .i64 br)) ∧ W1.drew.cell? ⟨n1, 0, none⟩ = some (.int .i64 x.id) ∧ W1.drew.cell? ⟨n1, 1, none⟩ = some (.int .i64 x.pow) ∧ W1.drew.cell? ⟨n1, 2, none⟩ = some (.int .i64 x.pri) ∧ W1.drew.cell? ⟨n1, 3, none⟩ = some (.bool x.ess)) ∧ Below W1.heap.size W1 W1.drew) := ⟨⟨⟨k0, k1, k2⟩, r0, r1, r2, r3⟩, below_drew W1⟩
      have HU : Hid (∀ V, (((V.cell? ⟨w.heap.size, 0, none⟩ = some (.int .i64 bc) ∧ V.cell? ⟨w.heap.size, 1, none⟩ = some (.int .i64 sq.chg) ∧ V.cell? ⟨w.heap.size, 2, none⟩ = some (.int .i64 br)) ∧ V.cell? ⟨n1, 0, none⟩ = some (.int .i64 x.id) ∧ V.cell? ⟨n1, 1, none⟩ = some (.int .i64 x.pow) ∧ V.cell? ⟨n1, 2, none⟩ = some (.int .i64 x.pri) ∧ V.cell? ⟨n1, 3, none⟩ = some (.bool x.ess)) ∧ Below W1.heap.size W1 V) → Calls Try.prog 40 #[.agg #[.int .i64 bc, .int .i64 sq.chg, .int .i64 br], .agg #[.int .i64 x.id, .int .i64 x.pow, .int .i64 x.pri, .bool x.ess]] V fun e V' => e = .returned (.int .i64 un) ∧ (((V'.cell? ⟨w.heap.size, 0, none⟩ = some (.int .i64 bc) ∧ V'.cell? ⟨w.heap.size, 1, none⟩ = some (.int .i64 sq.chg) ∧ V'.cell? ⟨w.heap.size, 2, none⟩ = some (.int .i64 br)) ∧ V'.cell? ⟨n1, 0, none⟩ = some (.int .i64 x.id) ∧ V'.cell? ⟨n1, 1, none⟩ = some (.int .i64 x.pow) ∧ V'.cell? ⟨n1, 2, none⟩ = some (.int .i64 x.pri) ∧ V'.cell? ⟨n1, 3, none⟩ = some (.bool x.ess)) ∧ Below W1.heap.size W1 V')) := Lib.hid (fun V h => (HUT.out ⟨bc, sq.chg, br⟩ x V).mono fun e V' ⟨h1, h2⟩ => ⟨by rw [HUN.out]; exact h1, ⟨⟨⟨below_cell h2 h.1.1.1, below_cell h2 h.1.1.2.1, below_cell h2 h.1.1.2.2⟩, below_cell h2 h.1.2.1, below_cell h2 h.1.2.2.1, below_cell h2 h.1.2.2.2.1, below_cell h2 h.1.2.2.2.2⟩, bt h.2 h2⟩⟩)
      have hwr : IntKind.i64.wrap (sq.chg - x.pow) = sq.chg - x.pow := IntWalk.i64_in _ (by omega)
      clear k0 k1 k2 r0 r1 r2 r3 hun SB1 LB1
      go_region_held3 (fun V => ((V.cell? ⟨w.heap.size, 0, none⟩ = some (.int .i64 bc) ∧ V.cell? ⟨w.heap.size, 1, none⟩ = some (.int .i64 sq.chg) ∧ V.cell? ⟨w.heap.size, 2, none⟩ = some (.int .i64 br)) ∧ V.cell? ⟨n1, 0, none⟩ = some (.int .i64 x.id) ∧ V.cell? ⟨n1, 1, none⟩ = some (.int .i64 x.pow) ∧ V.cell? ⟨n1, 2, none⟩ = some (.int .i64 x.pri) ∧ V.cell? ⟨n1, 3, none⟩ = some (.bool x.ess)) ∧ Below W1.heap.size W1 V) (with_reducible assumption)
        ((go_at_call 40; with_reducible refine (HU.out _ (by assumption)).mono ?_; rintro e w2 ⟨rfl, hS2⟩))
      have HB2 := Lib.hid hS2.2
      have SBW2 := Lib.hid (SBW1.out.call (HB2.out.mono SBW1.out.le))
      have LBW2 := Lib.hid (LBW.out.call HB2.out)
      have HO2 := Lib.hid (own_kept_below HO1.out HB2.out)
      clear hS2 HU HUT SALL0
      rename (_ ∧ _) ∧ Below _ _ _ => hHx
      clear hHx
      obtain ⟨r0, r1, r2, r3⟩ := LBW2.out.cells
      obtain ⟨k0, k1, k2⟩ := SBW2.out.c0
      have kf := SBW2.out.f0
      generalize hbo : decide (un ≤ sq.chg - x.pow) = bo
      have HBO := Lib.hid hbo
      clear hbo
      cases bo with
      | true =>
        have HGE := Lib.hid (of_decide_eq_true HBO.out)
        have HSY : Hid (F (q + 1) = ⟨sq.chg - x.pow, sq.used + x.pow, sq.ids ++ [x.id], sq.br⟩) := Lib.hid (by rw [HSX.out]; exact turn_yes (by rw [← HUN.out]; exact HGE.out))
        have hge := HGE.out
        go_upto_region 9 with fail
        obtain ⟨W3, hW3⟩ : ∃ W3, W3 = w2.setCell ⟨w.heap.size, 1, none⟩ (.int .i64 (sq.chg - x.pow)) := ⟨_, rfl⟩
        rw [← hW3]
        have SBW3 : Hid (Sb w w5 W3 bc (sq.chg - x.pow) br ga sq.used (gain - ga) v sq.br) := Lib.hid (by rw [hW3]; exact SBW2.out.chg _)
        have LBW3 : Hid (Lb W3 n1 x) := Lib.hid (by rw [hW3]; exact LBW2.out.oth _ (by omega))
        have HO3 : Hid (W3.ownsRow w5.heap.size 3 1 v sq.ids.length (ints sq.ids)) := Lib.hid (by rw [hW3]; exact own_set HO2.out (by have := HLT5.out; omega))
        clear hW3 r0 r1 r2 r3 k0 k1 k2 kf
        obtain ⟨r0, r1, r2, r3⟩ := LBW3.out.cells
        obtain ⟨g0, g1, g2, g3, g4⟩ := SBW3.out.c3
        have gf := SBW3.out.f3 1
        go_upto_region 10 with fail
        obtain ⟨W4, hW4⟩ : ∃ W4, W4 = W3.setCell ⟨w.heap.size + 1 + 1 + 1, 1, none⟩ (.int .i64 (sq.used + x.pow)) := ⟨_, rfl⟩
        rw [← hW4]
        have SBW4 : Hid (Sb w w5 W4 bc (sq.chg - x.pow) br ga (sq.used + x.pow) (gain - ga) v sq.br) := Lib.hid (by rw [hW4]; exact SBW3.out.used _)
        have LBW4 : Hid (Lb W4 n1 x) := Lib.hid (by rw [hW4]; exact LBW3.out.oth _ (by omega))
        have HO4 : Hid (W4.ownsRow w5.heap.size 3 1 v sq.ids.length (ints sq.ids)) := Lib.hid (by rw [hW4]; exact own_set HO3.out (by have := HLT5.out; omega))
        clear hW4 r0 r1 r2 r3 g0 g1 g2 g3 g4 gf
        obtain ⟨A2, m2, rfl⟩ := own_shape HO4.out
        obtain ⟨r0, r1, r2, r3⟩ := LBW4.out.cells
        obtain ⟨g0, g1, g2, g3, g4⟩ := SBW4.out.c3
        have h5 := SBW4.out.le
        have hl5 := HLT5.out
        have hidl := hok.2.2
        have OBJ2 := cell_new1 W4 (.int .i64 x.id) 3
        go_upto_region 13 with (at_builtin; refine wpList_append_own _ rfl (.tmp 61) (.tmp 64) 31 rfl w5.heap.size 3 i0 (.int .i64 0) 1 8 Try.underlying31 hi hz0 hz1 hz2 rfl (by decide) (.slice A2 sq.ids.length m2) sq.ids.length (ints sq.ids) rfl (own_kept_below HO4.out (bel1 W4 _)) ⟨W4.heap.size, 0, none⟩ 1 1 [.int .i64 x.id] rfl rfl (fun j u hu => by rw [ad_add]; exact OBJ2 j u hu) (by intro y hy; rw [List.mem_singleton.1 hy]; rfl) (by unfold maxLen; omega) (by omega) (by simp; omega) ?_; intro v3 w6 ho6 hg6 _; have HB6 : Hid (Below w5.heap.size W4 w6) := Lib.hid (((bel1 W4 (.cells #[.int .i64 x.id] 3)).mono h5).trans (below_grown2 (by simp; omega) (own_kept_below HO4.out (bel1 W4 (.cells #[.int .i64 x.id] 3))) hg6)); have HSB6 := Lib.hid (SBW4.out.call HB6.out); have HO6 : Hid (w6.ownsRow w5.heap.size 3 1 v3 (sq.ids.length + 1) (ints (sq.ids ++ [x.id]))) := Lib.hid (own_any ho6 rfl (by simp [ints])); obtain ⟨A6, n6, rfl⟩ := own_shape HO6.out; obtain ⟨t0, t1, t2, t3, t4⟩ := HSB6.out.c3; have tf := HSB6.out.f3 3; clear ho6 hg6)
        have HF1 : Hid (Sb w w5 (w6.setCell ⟨w.heap.size + 1 + 1 + 1, 3, none⟩ (.slice A6 (sq.ids.length + 1) n6)) bc (sq.chg - x.pow) br ga (sq.used + x.pow) (gain - ga) (.slice A6 (sq.ids.length + 1) n6) sq.br) := Lib.hid (HSB6.out.ids _)
        have HF2 : Hid ((w6.setCell ⟨w.heap.size + 1 + 1 + 1, 3, none⟩ (.slice A6 (sq.ids.length + 1) n6)).ownsRow w5.heap.size 3 1 (.slice A6 (sq.ids.length + 1) n6) (sq.ids.length + 1) (ints (sq.ids ++ [x.id]))) := Lib.hid (own_set HO6.out (by omega))
        go_wp2_with fail
        go_roundg (gk - 1)
        case measure => have := HG.out; have := HLT.out; omega
        case rel => exact ⟨q + 1, .slice A6 (sq.ids.length + 1) n6, by have := HG.out; have := HLT.out; omega, by go_num, by rw [HSY.out]; exact HF1.out, by rw [HSY.out]; exact own_any HF2.out (by simp) rfl⟩
      | false =>
        have HGE := Lib.hid (of_decide_eq_false HBO.out)
        cases he : x.ess with
        | true =>
          have HSY : Hid (F (q + 1) = ⟨sq.chg, sq.used, sq.ids, true⟩) := Lib.hid (by rw [HSX.out]; exact turn_no1 he (by rw [← HUN.out]; exact HGE.out))
          obtain ⟨g0, g1, g2, g3, g4⟩ := SBW2.out.c3
          have gf := SBW2.out.f3 4
          rw [he] at r3
          clear he
          go_wp2_with fail
          go_roundg (gk - 1)
          case measure => have := HG.out; have := HLT.out; omega
          case rel => exact ⟨q + 1, v, by have := HG.out; have := HLT.out; omega, by go_num, by rw [HSY.out]; exact SBW2.out.brown true, by rw [HSY.out]; exact own_set HO2.out (by have := HLT5.out; omega)⟩
        | false =>
          have HSY : Hid (F (q + 1) = sq) := Lib.hid (by rw [HSX.out]; exact turn_no2 he (by rw [← HUN.out]; exact HGE.out))
          rw [he] at r3
          clear he
          go_wp2_with fail
          go_roundg (gk - 1)
          case measure => have := HG.out; have := HLT.out; omega
          case rel => exact ⟨q + 1, v, by have := HG.out; have := HLT.out; omega, by go_num, by rw [HSY.out]; exact SBW2.out, by rw [HSY.out]; exact HO2.out⟩
    · obtain rfl : q = len := by omega
      have hqi : ¬ (q : Int) < (q : Int) := by omega
      have HRE : Hid (F q = R) := Lib.hid HALL.out
      obtain ⟨k0, k1, k2⟩ := hsb.c0
      obtain ⟨l0, l1, l2, l3, l4⟩ := hsb.c3
      have m0 : wr.cell? ⟨w.heap.size + 1, 0, none⟩ = some (.int .i64 0) := by rw [cell_obj hsb.b1]; rfl
      have m1 : wr.cell? ⟨w.heap.size + 1, 1, none⟩ = some (.int .i64 0) := by rw [cell_obj hsb.b1]; rfl
      have m2 : wr.cell? ⟨w.heap.size + 1, 2, none⟩ = some (.int .i64 0) := by rw [cell_obj hsb.b1]; rfl
      have n0 : wr.cell? ⟨w.heap.size + 1 + 1, 0, none⟩ = some (.int .i64 0) := by rw [cell_obj hsb.b2]; rfl
      have n1 : wr.cell? ⟨w.heap.size + 1 + 1, 1, none⟩ = some (.int .i64 0) := by rw [cell_obj hsb.b2]; rfl
      have n2 : wr.cell? ⟨w.heap.size + 1 + 1, 2, none⟩ = some (.int .i64 0) := by rw [cell_obj hsb.b2]; rfl
      have n3 : wr.cell? ⟨w.heap.size + 1 + 1, 3, none⟩ = some (.slice none 0 0) := by rw [cell_obj hsb.b2]; rfl
      have n4 : wr.cell? ⟨w.heap.size + 1 + 1, 4, none⟩ = some (.bool false) := by rw [cell_obj hsb.b2]; rfl
      have fm0 := frz_obj hsb.b1 0
      have fm1 := frz_obj hsb.b1 1
      have fm2 := frz_obj hsb.b1 2
      have fn0 := frz_obj hsb.b2 0
      have fn1 := frz_obj hsb.b2 1
      have fn2 := frz_obj hsb.b2 2
      have fn3 := frz_obj hsb.b2 3
      have fn4 := frz_obj hsb.b2 4
      obtain ⟨A9, c9, rfl⟩ := own_shape hO
      clear hsb hO
      generalize F q = sq at *
      go_upto_region 14 with fail
      go_region
      have hlt5 := SBW.out.lt
      have p0 := SBW.out.b1
      have q0 := SBW.out.b2
      have o0 := HO.out
      have z0 := SBW.out.bel
      obtain ⟨U1, hU1⟩ : ∃ U1, U1 = wr.setCell ⟨w.heap.size + 1, 0, none⟩ (.int .i64 bc) := ⟨_, rfl⟩
      have p1 : U1.heap[w.heap.size + 1]? = some (.cells #[.int .i64 bc, .int .i64 0, .int .i64 0] 23 (0, 0)) := by rw [hU1]; exact hset (i := 0) (.int .i64 bc) p0
      have q1 : U1.heap[w.heap.size + 1 + 1]? = some (.cells #[.int .i64 0, .int .i64 0, .int .i64 0, .slice none 0 0, .bool false] 33 (0, 0)) := by rw [hU1]; exact hoth (.int .i64 bc) q0 (by omega)
      have o1 : U1.ownsRow w5.heap.size 3 1 (.slice A9 sq.ids.length c9) sq.ids.length (ints sq.ids) := by rw [hU1]; exact own_set o0 (by omega)
      have z1 : Below w.heap.size w U1 := by rw [hU1]; exact z0.setCell (p := ⟨w.heap.size + 1, 0, none⟩) (by show w.heap.size ≤ w.heap.size + 1; omega) _
      obtain ⟨U2, hU2⟩ : ∃ U2, U2 = U1.setCell ⟨w.heap.size + 1, 1, none⟩ (.int .i64 sq.chg) := ⟨_, rfl⟩
      have p2 : U2.heap[w.heap.size + 1]? = some (.cells #[.int .i64 bc, .int .i64 sq.chg, .int .i64 0] 23 (0, 0)) := by rw [hU2]; exact hset (i := 1) (.int .i64 sq.chg) p1
      have q2 : U2.heap[w.heap.size + 1 + 1]? = some (.cells #[.int .i64 0, .int .i64 0, .int .i64 0, .slice none 0 0, .bool false] 33 (0, 0)) := by rw [hU2]; exact hoth (.int .i64 sq.chg) q1 (by omega)
      have o2 : U2.ownsRow w5.heap.size 3 1 (.slice A9 sq.ids.length c9) sq.ids.length (ints sq.ids) := by rw [hU2]; exact own_set o1 (by omega)
      have z2 : Below w.heap.size w U2 := by rw [hU2]; exact z1.setCell (p := ⟨w.heap.size + 1, 1, none⟩) (by show w.heap.size ≤ w.heap.size + 1; omega) _
      obtain ⟨U3, hU3⟩ : ∃ U3, U3 = U2.setCell ⟨w.heap.size + 1, 2, none⟩ (.int .i64 br) := ⟨_, rfl⟩
      have p3 : U3.heap[w.heap.size + 1]? = some (.cells #[.int .i64 bc, .int .i64 sq.chg, .int .i64 br] 23 (0, 0)) := by rw [hU3]; exact hset (i := 2) (.int .i64 br) p2
      have q3 : U3.heap[w.heap.size + 1 + 1]? = some (.cells #[.int .i64 0, .int .i64 0, .int .i64 0, .slice none 0 0, .bool false] 33 (0, 0)) := by rw [hU3]; exact hoth (.int .i64 br) q2 (by omega)
      have o3 : U3.ownsRow w5.heap.size 3 1 (.slice A9 sq.ids.length c9) sq.ids.length (ints sq.ids) := by rw [hU3]; exact own_set o2 (by omega)
      have z3 : Below w.heap.size w U3 := by rw [hU3]; exact z2.setCell (p := ⟨w.heap.size + 1, 2, none⟩) (by show w.heap.size ≤ w.heap.size + 1; omega) _
      obtain ⟨U4, hU4⟩ : ∃ U4, U4 = U3.setCell ⟨w.heap.size + 1 + 1, 0, none⟩ (.int .i64 ga) := ⟨_, rfl⟩
      have p4 : U4.heap[w.heap.size + 1]? = some (.cells #[.int .i64 bc, .int .i64 sq.chg, .int .i64 br] 23 (0, 0)) := by rw [hU4]; exact hoth (.int .i64 ga) p3 (by omega)
      have q4 : U4.heap[w.heap.size + 1 + 1]? = some (.cells #[.int .i64 ga, .int .i64 0, .int .i64 0, .slice none 0 0, .bool false] 33 (0, 0)) := by rw [hU4]; exact hset (i := 0) (.int .i64 ga) q3
      have o4 : U4.ownsRow w5.heap.size 3 1 (.slice A9 sq.ids.length c9) sq.ids.length (ints sq.ids) := by rw [hU4]; exact own_set o3 (by omega)
      have z4 : Below w.heap.size w U4 := by rw [hU4]; exact z3.setCell (p := ⟨w.heap.size + 1 + 1, 0, none⟩) (by show w.heap.size ≤ w.heap.size + 1 + 1; omega) _
      obtain ⟨U5, hU5⟩ : ∃ U5, U5 = U4.setCell ⟨w.heap.size + 1 + 1, 1, none⟩ (.int .i64 sq.used) := ⟨_, rfl⟩
      have p5 : U5.heap[w.heap.size + 1]? = some (.cells #[.int .i64 bc, .int .i64 sq.chg, .int .i64 br] 23 (0, 0)) := by rw [hU5]; exact hoth (.int .i64 sq.used) p4 (by omega)
      have q5 : U5.heap[w.heap.size + 1 + 1]? = some (.cells #[.int .i64 ga, .int .i64 sq.used, .int .i64 0, .slice none 0 0, .bool false] 33 (0, 0)) := by rw [hU5]; exact hset (i := 1) (.int .i64 sq.used) q4
      have o5 : U5.ownsRow w5.heap.size 3 1 (.slice A9 sq.ids.length c9) sq.ids.length (ints sq.ids) := by rw [hU5]; exact own_set o4 (by omega)
      have z5 : Below w.heap.size w U5 := by rw [hU5]; exact z4.setCell (p := ⟨w.heap.size + 1 + 1, 1, none⟩) (by show w.heap.size ≤ w.heap.size + 1 + 1; omega) _
      obtain ⟨U6, hU6⟩ : ∃ U6, U6 = U5.setCell ⟨w.heap.size + 1 + 1, 2, none⟩ (.int .i64 (gain - ga)) := ⟨_, rfl⟩
      have p6 : U6.heap[w.heap.size + 1]? = some (.cells #[.int .i64 bc, .int .i64 sq.chg, .int .i64 br] 23 (0, 0)) := by rw [hU6]; exact hoth (.int .i64 (gain - ga)) p5 (by omega)
      have q6 : U6.heap[w.heap.size + 1 + 1]? = some (.cells #[.int .i64 ga, .int .i64 sq.used, .int .i64 (gain - ga), .slice none 0 0, .bool false] 33 (0, 0)) := by rw [hU6]; exact hset (i := 2) (.int .i64 (gain - ga)) q5
      have o6 : U6.ownsRow w5.heap.size 3 1 (.slice A9 sq.ids.length c9) sq.ids.length (ints sq.ids) := by rw [hU6]; exact own_set o5 (by omega)
      have z6 : Below w.heap.size w U6 := by rw [hU6]; exact z5.setCell (p := ⟨w.heap.size + 1 + 1, 2, none⟩) (by show w.heap.size ≤ w.heap.size + 1 + 1; omega) _
      obtain ⟨U7, hU7⟩ : ∃ U7, U7 = U6.setCell ⟨w.heap.size + 1 + 1, 3, none⟩ (.slice A9 sq.ids.length c9) := ⟨_, rfl⟩
      have p7 : U7.heap[w.heap.size + 1]? = some (.cells #[.int .i64 bc, .int .i64 sq.chg, .int .i64 br] 23 (0, 0)) := by rw [hU7]; exact hoth (.slice A9 sq.ids.length c9) p6 (by omega)
      have q7 : U7.heap[w.heap.size + 1 + 1]? = some (.cells #[.int .i64 ga, .int .i64 sq.used, .int .i64 (gain - ga), .slice A9 sq.ids.length c9, .bool false] 33 (0, 0)) := by rw [hU7]; exact hset (i := 3) (.slice A9 sq.ids.length c9) q6
      have o7 : U7.ownsRow w5.heap.size 3 1 (.slice A9 sq.ids.length c9) sq.ids.length (ints sq.ids) := by rw [hU7]; exact own_set o6 (by omega)
      have z7 : Below w.heap.size w U7 := by rw [hU7]; exact z6.setCell (p := ⟨w.heap.size + 1 + 1, 3, none⟩) (by show w.heap.size ≤ w.heap.size + 1 + 1; omega) _
      obtain ⟨U8, hU8⟩ : ∃ U8, U8 = U7.setCell ⟨w.heap.size + 1 + 1, 4, none⟩ (.bool sq.br) := ⟨_, rfl⟩
      have p8 : U8.heap[w.heap.size + 1]? = some (.cells #[.int .i64 bc, .int .i64 sq.chg, .int .i64 br] 23 (0, 0)) := by rw [hU8]; exact hoth (.bool sq.br) p7 (by omega)
      have q8 : U8.heap[w.heap.size + 1 + 1]? = some (.cells #[.int .i64 ga, .int .i64 sq.used, .int .i64 (gain - ga), .slice A9 sq.ids.length c9, .bool sq.br] 33 (0, 0)) := by rw [hU8]; exact hset (i := 4) (.bool sq.br) q7
      have o8 : U8.ownsRow w5.heap.size 3 1 (.slice A9 sq.ids.length c9) sq.ids.length (ints sq.ids) := by rw [hU8]; exact own_set o7 (by omega)
      have z8 : Below w.heap.size w U8 := by rw [hU8]; exact z7.setCell (p := ⟨w.heap.size + 1 + 1, 4, none⟩) (by show w.heap.size ≤ w.heap.size + 1 + 1; omega) _
      rw [← hU1, ← hU2, ← hU3, ← hU4, ← hU5, ← hU6, ← hU7, ← hU8]
      obtain ⟨V, hV⟩ : ∃ V, V = U8.drew := ⟨_, rfl⟩
      rw [← hV]
      have v1 : V.heap[w.heap.size + 1]? = some (.cells #[.int .i64 bc, .int .i64 sq.chg, .int .i64 br] 23 (0, 0)) := by rw [hV]; exact p8
      have v2 : V.heap[w.heap.size + 1 + 1]? = some (.cells #[.int .i64 ga, .int .i64 sq.used, .int .i64 (gain - ga), .slice A9 sq.ids.length c9, .bool sq.br] 33 (0, 0)) := by rw [hV]; exact q8
      have HVO : Hid (V.ownsRow w5.heap.size 3 1 (.slice A9 sq.ids.length c9) sq.ids.length (ints sq.ids)) := Lib.hid (by rw [hV]; exact own_kept_below o8 (below_drew _))
      have HVB : Hid (Below w.heap.size w V) := Lib.hid (by rw [hV]; exact z8.drew)
      clear p0 q0 o0 z0 p1 q1 o1 z1 p2 q2 o2 z2 p3 q3 o3 z3 p4 q4 o4 z4 p5 q5 o5 z5 p6 q6 o6 z6 p7 q7 o7 z7 p8 q8 o8 z8 hV hU1 hU2 hU3 hU4 hU5 hU6 hU7 hU8
      have e0 : V.cell? ⟨w.heap.size + 1, 0, none⟩ = some (.int .i64 bc) := by rw [cell_obj v1]; rfl
      have e1 : V.cell? ⟨w.heap.size + 1, 1, none⟩ = some (.int .i64 sq.chg) := by rw [cell_obj v1]; rfl
      have e2 : V.cell? ⟨w.heap.size + 1, 2, none⟩ = some (.int .i64 br) := by rw [cell_obj v1]; rfl
      have e3 : V.cell? ⟨w.heap.size + 1 + 1, 0, none⟩ = some (.int .i64 ga) := by rw [cell_obj v2]; rfl
      have e4 : V.cell? ⟨w.heap.size + 1 + 1, 1, none⟩ = some (.int .i64 sq.used) := by rw [cell_obj v2]; rfl
      have e5 : V.cell? ⟨w.heap.size + 1 + 1, 2, none⟩ = some (.int .i64 (gain - ga)) := by rw [cell_obj v2]; rfl
      have e6 : V.cell? ⟨w.heap.size + 1 + 1, 3, none⟩ = some (.slice A9 sq.ids.length c9) := by rw [cell_obj v2]; rfl
      have e7 : V.cell? ⟨w.heap.size + 1 + 1, 4, none⟩ = some (.bool sq.br) := by rw [cell_obj v2]; rfl
      clear v1 v2
      go_wp2_with fail
      refine bodyPost_ret (v := .tuple #[.agg #[.int .i64 bc, .int .i64 sq.chg, .int .i64 br], .agg #[.int .i64 ga, .int .i64 sq.used, .int .i64 (gain - ga), .slice A9 sq.ids.length c9, .bool sq.br]]) (by simp [results, Try.results18, go_sem, e0, e1, e2, e3, e4, e5, e6, e7]) rfl ?_
      rw [← HRE.out]
      exact ⟨A9, ⟨c9, rfl⟩, own_RdI HVO.out, HVB.out⟩
end Pw
end Go.Proofs.Ytobbnbelacncjaa
