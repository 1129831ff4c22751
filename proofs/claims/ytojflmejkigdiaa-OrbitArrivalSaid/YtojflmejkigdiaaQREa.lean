/-
  The specification's Earliest.
-/
import Derived.Test.YtojflmejkigdiaaQRlx
namespace Go.Proofs.Ytojflmejkigdiaa
open Go.RowKit Go.Shelf
namespace Q
open H
set_option linter.unusedVariables false
set_option linter.unusedSimpArgs false
set_option maxRecDepth 100000
def ilm (k : Nat) : List Int := List.replicate k (-1) ++ List.replicate (21 - k) 0
theorem ilm_set (k : Nat) (hk : k < 21) : (ilm k).set k (-1) = ilm (k + 1) := by
  have h : ∀ k : Fin 21, (ilm k.1).set k.1 (-1) = ilm (k.1 + 1) := by decide +kernel
  exact h ⟨k, hk⟩
theorem ilm_get (k : Nat) (hk : k < 21) : (ilm k)[k]? = some 0 := by
  have h : ∀ k : Fin 21, (ilm k.1)[k.1]? = some 0 := by decide +kernel
  exact h ⟨k, hk⟩
theorem ilm_all (c : Nat) (hc : c < 21) : (ilm 21)[c]? = some (-1) := by
  have h : ∀ k : Fin 21, (ilm 21)[k.1]? = some (-1) := by decide +kernel
  exact h ⟨c, hc⟩
theorem ini_mz (c : Nat) {tick : Int} (ht : tick ≤ 1000000) : (ini c tick).map mz = (ilm 21).set c tick := by
  unfold ini
  rw [Int.toNat_natCast, List.map_set]
  congr 1
  unfold mz
  rw [if_neg (by omega)]
def PS (T : List Wn) (size : Int) (L : List Int) (q : Nat) : List Int := pass (hl (T.take q)) size L
theorem PS_ok {T : List Wn} {size : Int} {L : List Int} (hL : Aok L) (hs : 1 ≤ size) (q : Nat) : Aok (PS T size L q) := pass_ok hl_ok hs hL
theorem PS_zero (T : List Wn) (size : Int) (L : List Int) : PS T size L 0 = L := by
  unfold PS
  rw [List.take_zero, hl_eq]
  rfl
theorem PS_all (T : List Wn) (size : Int) (L : List Int) : PS T size L T.length = pass (hl T) size L := by unfold PS; rw [List.take_length]
theorem PS_no {T : List Wn} {size : Int} {L : List Int} {q : Nat} {x : Wn} (h : T[q]? = some x) (hx : lkOk x = false) : PS T size L (q + 1) = PS T size L q := by
  unfold PS
  rw [hl_step h, hx, if_neg (by simp), List.append_nil]
theorem PS_two {T : List Wn} {size : Int} {L : List Int} {q : Nat} {x : Wn} (hL : Aok L) (hs : 1 ≤ size) (h : T[q]? = some x) (hx : lkOk x = true) {a b : Nat} (ha : x.a = a) (hb : far x = b) : rlx size (rlx size (PS T size L q) x a b) x b a = PS T size L (q + 1) := by
  rw [rlx_two hs (PS_ok hL hs q) hx ha hb]
  unfold PS
  rw [hl_step h, hx, if_pos rfl, pass_app]
theorem rdwn_keep {w V : World} {B : Nat} {ad : Addr} {x : Wn} (h : RdWn w ad x) (hb : ad.block < B) (hB : Below B w V) : RdWn V ad x :=
  ⟨(hB.cell hb).trans h.c0, (hB.cell (p := ⟨ad.block, ad.off + 1, none⟩) hb).trans h.c1, (hB.cell (p := ⟨ad.block, ad.off + 2, none⟩) hb).trans h.c2, (hB.cell (p := ⟨ad.block, ad.off + 3, none⟩) hb).trans h.c3, (hB.cell (p := ⟨ad.block, ad.off + 4, none⟩) hb).trans h.c4, (hB.cell (p := ⟨ad.block, ad.off + 5, none⟩) hb).trans h.c5⟩
set_option maxHeartbeats 8000000 in
theorem rearl_any (T : List Wn) (A : Option Addr) (cap B : Nat) (c : Nat) (tick size : Int) (w : World) (hB : B ≤ w.heap.size) (hlen : T.length ≤ 1000) (hT : ∀ x ∈ T, fm x = true) (hc : c < 12) (ht : 0 ≤ tick ∧ tick ≤ 1000000) (hs : 1 ≤ size ∧ size ≤ 100000) (hR : RdsWn w B A T) :
    Calls Try.prog 55 #[.slice A T.length cap, .int .i64 (c : Int), .int .i64 tick, .int .i64 size] w fun e w' => e = .returned (.slice (some ⟨w.heap.size, 0, none⟩) 21 21) ∧ RI w' w.heap.size ((itr (hl T) size 12 (ini c tick)).map mz) ∧ Below w.heap.size w w' := by
  obtain ⟨w3, hw3⟩ : ∃ w3, w3 = w.alloc (.cells ((ilm 0).map (Value.int .i64)).toArray 3) := ⟨_, rfl⟩
  have hmk : (Instr.makeSlice 27 (.int .i64 21) (.int .i64 21)).run Try.prog w = .ok (.slice (some ⟨w.heap.size, 0, none⟩) 21 21) w3 := by rw [hw3]; kernel_rfl
  have R3 : Hid (RI w3 w.heap.size (ilm 0)) := Lib.hid (by rw [hw3]; exact heap_top w _)
  have B3 : Hid (Below w.heap.size w w3) := Lib.hid (by rw [hw3]; exact bel1 w _)
  have HEN := Lib.hid (fun x W hb => rends_any x W hb)
  have HR := Lib.hid hR
  have HGET := Lib.hid (fun k (hk : k < T.length) => (⟨T[k], List.getElem?_eq_getElem hk⟩ : ∃ x, T[k]? = some x))
  have HFM := Lib.hid (fun i x (h : T[i]? = some x) => hT x (List.mem_of_getElem? h))
  have HOK : Hid (∀ r, Aok (itr (hl T) size r (ini c tick))) := Lib.hid (fun r => itr_ok hl_ok hs.1 (ini_ok (by omega) ht) r)
  have HNX : Hid (∀ r, itr (hl T) size (r + 1) (ini c tick) = PS T size (itr (hl T) size r (ini c tick)) T.length) := Lib.hid (fun r => (PS_all _ _ _).symm)
  have HP0 := Lib.hid (fun L => PS_zero T size L)
  have HPN := Lib.hid (fun L q x (h : T[q]? = some x) (hx : lkOk x = false) => PS_no (size := size) (L := L) h hx)
  have HRX : Hid (∀ L q x, Aok L → T[q]? = some x → lkOk x = true → ∃ P1, (∀ W, RI W w.heap.size ((PS T size L q).map mz) → Calls Try.prog 70 #[.slice (some ⟨w.heap.size, 0, none⟩) 21 21, x.v, .int .i64 x.a, .int .i64 (far x), .int .i64 size] W fun e w' => e = .returned (.slice (some ⟨w.heap.size, 0, none⟩) 21 21) ∧ RI w' w.heap.size (List.map mz P1) ∧ Below w.heap.size W w') ∧
      (∀ W, RI W w.heap.size (List.map mz P1) → Calls Try.prog 70 #[.slice (some ⟨w.heap.size, 0, none⟩) 21 21, x.v, .int .i64 (far x), .int .i64 x.a, .int .i64 size] W fun e w' => e = .returned (.slice (some ⟨w.heap.size, 0, none⟩) 21 21) ∧ RI w' w.heap.size ((PS T size L (q + 1)).map mz) ∧ Below w.heap.size W w')) := Lib.hid (fun L q x hL h hx => by
    have hfx := HFM.out q x h
    obtain ⟨h1, h2, h3⟩ := lkOk_ok hx
    have h4 := h1.a
    obtain ⟨a, ha⟩ : ∃ a : Nat, x.a = a := ⟨x.a.toNat, by omega⟩
    obtain ⟨b, hb⟩ : ∃ b : Nat, far x = b := ⟨(far x).toNat, by omega⟩
    have hps := PS_ok (T := T) hL hs.1 q
    refine ⟨rlx size (PS T size L q) x a b, fun W hW => ?_, fun W hW => ?_⟩
    · rw [ha, hb]
      exact rrelax_any x _ w.heap.size a b size W hps (by omega) (by omega) hfx hs hW
    · rw [ha, hb, ← PS_two hL hs.1 h hx ha hb]
      exact rrelax_any x _ w.heap.size b a size W (rlx_ok hps hfx (by omega) (by omega) hs.1) (by omega) (by omega) hfx hs hW)
  have HI0 : Hid ((itr (hl T) size 0 (ini c tick)).map mz = (ilm 21).set c tick) := Lib.hid (ini_mz c ht.2)
  clear hR hT hw3
  generalize hIT : (fun r => itr (hl T) size r (ini c tick)) = IT at *
  have HSE := Lib.hid hIT
  replace HOK : Hid (∀ r, Aok (IT r)) := Lib.hid (by rw [← HSE.out]; exact HOK.out)
  replace HNX : Hid (∀ r, IT (r + 1) = PS T size (IT r) T.length) := Lib.hid (by rw [← HSE.out]; exact HNX.out)
  replace HI0 : Hid ((IT 0).map mz = (ilm 21).set c tick) := Lib.hid (by rw [← HSE.out]; exact HI0.out)
  have HFIN : Hid (itr (hl T) size 12 (ini c tick) = IT 12) := Lib.hid (by rw [← HSE.out])
  rw [HFIN.out]
  clear hIT HSE HFIN
  generalize PS T size = ps at *
  generalize T.length = len at *
  have hci : (c : Int) < 21 := by omega
  go_enter Try.func55, Try.ntmps55
  go_wp2_with fail
  go_loopg [10] 21 (fun g i wr => ∃ q : Nat, q + g = 21 ∧ i = .int .i64 (q : Nat) ∧ RI wr w.heap.size (ilm q) ∧ Below w.heap.size w wr)
  case atStart => exact ⟨0, rfl, rfl, R3.out, B3.out⟩
  case round =>
    obtain ⟨q, hg, rfl, hri, hB2⟩ := hrel
    have BEL := Lib.hid hB2
    have HG := Lib.hid hg
    have HRI := Lib.hid hri
    have hqn : q ≤ 21 := by omega
    clear hg hB2
    by_cases hlt : q < 21
    · have HLT := Lib.hid hlt
      have hqi : (q : Int) < 21 := by omega
      have hcl := hri.cell (ilm_get q hlt)
      have hfz := hri.fz q
      have haq : (⟨w.heap.size, 0, none⟩ : Addr).add q = ⟨w.heap.size, q, none⟩ := ad_add _ _
      clear hri
      go_wp2_with fail
      go_roundg (gk - 1)
      case measure => have := HG.out; have := HLT.out; omega
      case rel => exact ⟨q + 1, by have := HG.out; have := HLT.out; omega, by go_num, by rw [← ilm_set q HLT.out]; exact HRI.out.set q (-1), BEL.out.setCell (p := ⟨w.heap.size, q, none⟩) (Nat.le_refl _) _⟩
    · have hqi : ¬ (q : Int) < 21 := by omega
      obtain rfl : q = 21 := by omega
      have hcl := hri.cell (ilm_all c (by omega))
      have hfz := hri.fz c
      have haq : (⟨w.heap.size, 0, none⟩ : Addr).add c = ⟨w.heap.size, c, none⟩ := ad_add _ _
      clear hri hlt HG
      go_wp2_with fail
      go_loopg [9, 11] 12 (fun g o i wr => ∃ r : Nat, r + g = 12 ∧ i = .int .i64 (r : Nat) ∧ o = .slice (some ⟨w.heap.size, 0, none⟩) 21 21 ∧ RI wr w.heap.size (List.map mz (IT r)) ∧ Below w.heap.size w wr)
      case atStart => exact ⟨0, rfl, rfl, rfl, by rw [HI0.out]; exact HRI.out.set c tick, BEL.out.setCell (p := ⟨w.heap.size, c, none⟩) (Nat.le_refl _) _⟩
      case round =>
        clear hcl hfz haq HRI BEL HI0
        obtain ⟨r, hg, rfl, rfl, hri, hB2⟩ := hrel
        have BEL := Lib.hid hB2
        have HG2 := Lib.hid hg
        have HRI := Lib.hid hri
        have hrn : r ≤ 12 := by omega
        clear hg hB2 hri
        by_cases hlt : r < 12
        · have HLT := Lib.hid hlt
          have hri : (r : Int) < 12 := by omega
          obtain ⟨g2, hg2e⟩ : ∃ g2, g2 = gk := ⟨_, rfl⟩
          have HGG : Hid (r + g2 = 12) := Lib.hid (by rw [hg2e]; exact HG2.out)
          have HGE := Lib.hid hg2e
          have HLO := Lib.hid (HOK.out r)
          have HNR := Lib.hid (HNX.out r)
          clear hg2e HG2 hlt
          generalize IT r = L at *
          go_wp2_with fail
          go_loopg [9, 12] len (fun g o i wr => ∃ q : Nat, q + g = len ∧ i = .int .i64 (q : Nat) ∧ o = .slice (some ⟨w.heap.size, 0, none⟩) 21 21 ∧ RI wr w.heap.size (List.map mz (ps L q)) ∧ Below w.heap.size w wr)
          case atStart => exact ⟨0, Nat.zero_add _, rfl, rfl, by rw [HP0.out]; exact HRI.out, BEL.out⟩
          case round =>
            clear HRI BEL
            obtain ⟨q, hg, rfl, rfl, hri2, hB2⟩ := hrel
            have BEL := Lib.hid hB2
            have HG := Lib.hid hg
            have HRI := Lib.hid hri2
            have hqn : q ≤ len := by omega
            clear hg hB2 hri2
            by_cases hq : q < len
            · have HLQ := Lib.hid hq
              have hqi : (q : Int) < (len : Int) := by omega
              obtain ⟨x, hx⟩ := HGET.out q hq
              obtain ⟨ad, rfl, had, hr0⟩ := HR.out q x hx
              have hab : (ad.add (q * 6)).block < w.heap.size := by rw [add_block]; omega
              have HKP := Lib.hid (fun V (hV : Below w.heap.size w V) => rdwn_keep hr0 hab hV)
              have hr := HKP.out wr BEL.out
              have c0 := hr.c0
              have c1 := hr.c1
              have c2 := hr.c2
              have c3 := hr.c3
              have c4 := hr.c4
              have c5 := hr.c5
              have hfx := HFM.out q x hx
              have HEX := Lib.hid (fun W => HEN.out x W (by unfold fm suits at hfx; simp only [decide_eq_true_eq] at hfx; omega))
              cases hl : lk x with
              | false =>
                have HPX := Lib.hid (HPN.out L q x hx (by unfold lkOk; rw [hl]; exact decide_eq_false (fun h => by cases h.1)))
                rw [hl] at HEX
                clear hr hr0 hab hx had hq hfx hl
                go_wp2_with (go_at_call 69; refine (HEX.out _).mono ?_; rintro e w4 ⟨rfl, hB4⟩)
                go_roundg (gk - 1)
                case measure => have := HG.out; have := HLQ.out; omega
                case rel => exact ⟨q + 1, by have := HG.out; have := HLQ.out; omega, by go_num, rfl, by rw [HPX.out]; exact HRI.out.keep hB4, BEL.out.trans (hB4.mono BEL.out.size)⟩
              | true =>
                obtain ⟨P1, HX1, HX2⟩ := HRX.out L q x HLO.out hx (by unfold lkOk; rw [hl]; exact decide_eq_true ⟨rfl, hfx⟩)
                replace HX1 := Lib.hid HX1
                replace HX2 := Lib.hid HX2
                rw [hl] at HEX
                clear hr hr0 hab hx had hq hfx hl
                generalize far x = fx at *
                go_wp2_with (first
                  | (go_at_call 69; with_reducible refine (HEX.out _).mono ?_; rintro e w4 ⟨rfl, hB4⟩; have HB4 := Lib.hid hB4; have R4 := Lib.hid (HRI.out.keep hB4); have P4 := Lib.hid (BEL.out.trans (hB4.mono BEL.out.size)); have r4 := HKP.out _ P4.out; have c0 := r4.c0; have c1 := r4.c1; have c2 := r4.c2; have c3 := r4.c3; have c4 := r4.c4; have c5 := r4.c5; clear r4)
                  | (go_at_call 70; with_reducible refine (HX1.out _ R4.out).mono ?_; rintro e w5 ⟨rfl, hr5, hB5⟩; have HR5 := Lib.hid hr5; have P5 := Lib.hid (P4.out.trans hB5); have r5 := HKP.out _ P5.out; have c0 := r5.c0; have c1 := r5.c1; have c2 := r5.c2; have c3 := r5.c3; have c4 := r5.c4; have c5 := r5.c5; clear r5 hr5 hB5)
                  | (go_at_call 70; with_reducible refine (HX2.out _ HR5.out).mono ?_; rintro e w6 ⟨rfl, hr6, hB6⟩; have HR6' := Lib.hid hr6; have HB6 := Lib.hid (P5.out.trans hB6)))
                go_roundg (gk - 1)
                case measure => have := HG.out; have := HLQ.out; omega
                case rel => exact ⟨q + 1, by have := HG.out; have := HLQ.out; omega, by go_num, rfl, HR6'.out, HB6.out⟩
            · have hqi : ¬ (q : Int) < (len : Int) := by omega
              have HQE : Hid (q = len) := Lib.hid (by omega)
              go_wp2_with fail
              go_roundg (g2 - 1)
              case measure => have := HGG.out; have := HGE.out; have := HLT.out; omega
              case rel => exact ⟨r + 1, by have := HGG.out; have := HLT.out; omega, by go_num, rfl, by rw [HNR.out, ← HQE.out]; exact HRI.out, BEL.out⟩
        · have hri : ¬ (r : Int) < 12 := by omega
          obtain rfl : r = 12 := by omega
          go_wp2_with fail
          go_ret
          exact ⟨rfl, HRI.out, BEL.out⟩
end Q
end Go.Proofs.Ytojflmejkigdiaa
