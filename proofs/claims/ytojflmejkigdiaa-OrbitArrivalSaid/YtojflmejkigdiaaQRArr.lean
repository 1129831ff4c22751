/-
  The specification's Arrival.
-/
import Derived.Test.YtojflmejkigdiaaQREa
import Derived.Test.YtojflmejkigdiaaQSub
namespace Go.Proofs.Ytojflmejkigdiaa
open Go.RowKit Go.Shelf
namespace Q
open H
set_option linter.unusedVariables false
set_option linter.unusedSimpArgs false
set_option maxRecDepth 100000
theorem itr_ex (H : List HpO) {size : Int} (hs : 1 ≤ size) : ∀ (t : Nat) (l : List Int), Aok l → (tot l).toNat ≤ t → ∃ k, pass (H.map (·.1)) size (itr (H.map (·.1)) size k l) = itr (H.map (·.1)) size k l
  | t, l, hl, ht => by
    obtain ⟨h1, h2⟩ := ps_tot hl hs H
    by_cases hlt : tot (ps size l H) < tot l
    · have hok := ps_ok hl hs H
      have h0 := tot_nonneg hok
      obtain ⟨k, hk⟩ := itr_ex H hs (t - 1) (ps size l H) hok (by omega)
      refine ⟨1 + k, ?_⟩
      rw [itr_add]
      exact hk
    · exact ⟨0, h2 hlt⟩
  termination_by t => t
  decreasing_by
    have := tot_nonneg (ps_ok hl hs H)
    omega
theorem erl_ex (T : List Wn) {craft tick size : Int} (hs : 1 ≤ size) (hc : 0 ≤ craft ∧ craft < 12) (ht : 0 ≤ tick ∧ tick ≤ 1000000) : ∃ E, Erl T craft tick size E := by
  obtain ⟨k, hk⟩ := itr_ex (hopsL T) hs _ _ (ini_ok hc ht) (Nat.le_refl _)
  exact ⟨_, itr_ok hl_ok hs (ini_ok hc ht) k, ⟨k, rfl⟩, hk⟩
theorem own_news {W : World} {b n c g : Nat} {e : TypeId} {zs : List Int} (h : W.ownsRow b e 1 (.slice (some ⟨g, 0, none⟩) n c) n (ints zs)) : ∀ j u, (ints zs)[j]? = some u → W.cell? ((⟨g, 0, none⟩ : Addr).add j) = some u := by
  have h2 := (own_RdI h).news zs.length
  rw [List.take_length] at h2
  exact h2
theorem own_at (W : World) (base : Nat) (z : Int) (hb : base ≤ W.heap.size) : (W.alloc (.cells #[.int .i64 z] 3)).ownsRow base 3 1 (.slice (some ⟨W.heap.size, 0, none⟩) 1 1) 1 [.int .i64 z] := own_one W base z hb
set_option maxHeartbeats 8000000 in
theorem rarr_any (T : List Wn) (A : Option Addr) (cap B : Nat) (c s : Nat) (tick size : Int) (w : World) (hB : B ≤ w.heap.size) (hlen : T.length ≤ 1000) (hT : ∀ x ∈ T, fm x = true) (hc : c < 12) (hst : s < 9) (ht : 0 ≤ tick ∧ tick ≤ 1000000) (hs : 1 ≤ size ∧ size ≤ 100000) (hR : RdsWn w B A T) :
    Calls Try.prog 29 #[.slice A T.length cap, .int .i64 (c : Int), .int .i64 (s : Int), .int .i64 tick, .int .i64 size] w fun e w' => (∃ E, Erl T c tick size E ∧ ((gt E (12 + s) = 1000001 ∧ e = .returned (.tuple #[.int .i64 0, .slice none 0 0, .bool false])) ∨ (Nd E (12 + s) ∧ ∃ A1 c1 l, Chn (fun n => befL E n size (hl T)) c (12 + s) l ∧ e = .returned (.tuple #[.int .i64 (gt E (12 + s)), .slice A1 l.length c1, .bool true]) ∧ RdI w' w'.heap.size .i64 A1 l))) ∧ Below w.heap.size w w' := by
  obtain ⟨i0, hi, hz0, hz1, hz2⟩ := info_parts infoI
  have hcr : 0 ≤ (c : Int) ∧ (c : Int) < 12 := by omega
  obtain ⟨E, hE⟩ := erl_ex T hs.1 hcr ht
  have HEL : Hid (∀ W, Below w.heap.size w W → Calls Try.prog 55 #[.slice A T.length cap, .int .i64 (c : Int), .int .i64 tick, .int .i64 size] W fun e w' => e = .returned (.slice (some ⟨W.heap.size, 0, none⟩) 21 21) ∧ RI w' W.heap.size (E.map mz) ∧ Below W.heap.size W w') := Lib.hid (fun W hW => by
    have h := rearl_any T A cap B c tick size W (Nat.le_trans hB hW.size) hlen hT hc ht hs (hR.below (hW.mono hB))
    rwa [twelve hs.1 hcr ht hE] at h)
  have HSTP : Hid (∀ (q n : Nat) W, q < 21 → Below w.heap.size w W → Calls Try.prog 56 #[.slice A T.length cap, .int .i64 (q : Int), .int .i64 (n : Int), .int .i64 (gt E (q : Int)), .int .i64 size] W fun e w' => e = .returned (.tuple #[.int .i64 ((stp T q n (gt E (q : Int)) size).getD 0), .bool (stp T q n (gt E (q : Int)) size).isSome]) ∧ Below W.heap.size W w') := Lib.hid (fun q n W hq hW =>
    rstep_any T A cap B q n (gt E (q : Int)) size W (Nat.le_trans hB hW.size) (by omega) hT (hE.ok.bd q hq) hs (hR.below (hW.mono hB)))
  have HBF : Hid (∀ n : Nat, Nd E n → (n : Int) ≠ c → ∃ m : Nat, befL E n size (hl T) = m ∧ m < 12 ∧ Nd E m ∧ gt E (m : Int) < gt E (n : Int) ∧ stp T m n (gt E (m : Int)) size = some (gt E (n : Int)) ∧ ∀ q : Nat, q < m → stp T q n (gt E (q : Int)) size ≠ some (gt E (n : Int))) := Lib.hid (fun n hn hne => by
    obtain ⟨h1, h2, h3⟩ := bef_nd hs.1 hcr ht hE hn hne
    obtain ⟨h4, h5⟩ := stp_before hT hs.1 hcr ht hE hn hne
    have hrg := h1.rg
    refine ⟨(befL E n size (hl T)).toNat, by omega, by omega, ?_⟩
    have he : (((befL E n size (hl T)).toNat : Nat) : Int) = befL E n size (hl T) := by omega
    rw [he]
    exact ⟨h1, h2, h4, fun q hq => h5 q (by omega) (by omega)⟩)
  have HGET : Hid (∀ i : Nat, i < 21 → (E.map mz)[i]? = some (mz (gt E (i : Int)))) := Lib.hid (fun i hi => mz_get hE.ok hi)
  have HBD : Hid (∀ i : Nat, i < 21 → 0 ≤ gt E (i : Int) ∧ gt E (i : Int) ≤ 1000001) := Lib.hid (fun i hi => hE.ok.bd i hi)
  have HCH : Hid (∀ n l, n ≠ (c : Int) → Chn (fun n => befL E n size (hl T)) c (befL E n size (hl T)) l → Chn (fun n => befL E n size (hl T)) c n (l ++ [n])) := Lib.hid (fun n l h1 h2 => .step h1 h2)
  have HBASE : Hid (Chn (fun n => befL E n size (hl T)) c c [(c : Int)]) := Lib.hid .base
  have HEE := Lib.hid hE
  have HGT : Hid (∀ n : Nat, Nd E n → mz (gt E (n : Int)) = gt E (n : Int)) := Lib.hid (fun n hn => by unfold mz; rw [if_neg (by have := hn.tk; omega)])
  obtain ⟨p, hp⟩ : ∃ p : Nat, p = 12 + s := ⟨_, rfl⟩
  have hpp : (12 : Int) + (s : Int) = (p : Int) := by omega
  rw [hpp]
  have HPS := Lib.hid hp
  have HPI : Hid ((p : Int) = 12 + (s : Int)) := Lib.hid hpp.symm
  have hp21 : p < 21 := by omega
  have hpc : ¬ p = c := by omega
  clear hE hR hT hB hp hpp hcr
  obtain ⟨nx, HCN⟩ : ∃ nx : Int → Int, Hid ((fun n => befL E n size (hl T)) = nx) := ⟨_, Lib.hid rfl⟩
  obtain ⟨st, HSV⟩ : ∃ st : Int → Int → Int → Int → Option Int, Hid (stp T = st) := ⟨_, Lib.hid rfl⟩
  replace HBF : Hid (∀ n : Nat, Nd E n → (n : Int) ≠ c → ∃ m : Nat, nx n = m ∧ m < 12 ∧ Nd E m ∧ gt E (m : Int) < gt E (n : Int) ∧ st m n (gt E (m : Int)) size = some (gt E (n : Int)) ∧ ∀ q : Nat, q < m → st q n (gt E (q : Int)) size ≠ some (gt E (n : Int))) := Lib.hid (by rw [← HCN.out, ← HSV.out]; exact HBF.out)
  replace HCH : Hid (∀ n l, n ≠ (c : Int) → Chn nx c (nx n) l → Chn nx c n (l ++ [n])) := Lib.hid (by rw [← HCN.out]; exact HCH.out)
  replace HBASE : Hid (Chn nx c c [(c : Int)]) := Lib.hid (by rw [← HCN.out]; exact HBASE.out)
  replace HSTP : Hid (∀ (q n : Nat) W, q < 21 → Below w.heap.size w W → Calls Try.prog 56 #[.slice A T.length cap, .int .i64 (q : Int), .int .i64 (n : Int), .int .i64 (gt E (q : Int)), .int .i64 size] W fun e w' => e = .returned (.tuple #[.int .i64 ((st q n (gt E (q : Int)) size).getD 0), .bool (st q n (gt E (q : Int)) size).isSome]) ∧ Below W.heap.size W w') := Lib.hid (by rw [← HSV.out]; exact HSTP.out)
  clear HSV
  generalize hl' : T.length = len at *
  clear hl'
  have hpi : (p : Int) < 21 := by omega
  have hw12 : wrap64 (12 + (s : Int)) = 12 + (s : Int) := IntWalk.wrap64_in _ (by omega)
  have hi0 : (0 : Int) ≤ 12 + (s : Int) := by omega
  have hi1 : 12 + (s : Int) < 21 := by omega
  have hit : (12 + (s : Int)).toNat = 12 + s := by omega
  go_enter Try.func29, Try.ntmps29
  go_upto_region 3 with (go_at_call 55; refine (HEL.out _ (Below.refl _ _)).mono ?_; rintro e w3 ⟨rfl, hR3, hB3⟩; have HR3 := Lib.hid hR3; have HB3 := Lib.hid hB3; clear hR3 hB3)
  clear HEL
  have eap : (⟨w.heap.size, 0, none⟩ : Addr).add (12 + s) = ⟨w.heap.size, 12 + s, none⟩ := ad_add _ _
  by_cases h1 : gt E (p : Int) = 1000001
  · have HE1 := Lib.hid h1
    have cp : w3.cell? ⟨w.heap.size, 12 + s, none⟩ = some (.int .i64 (-1)) := by have h := HR3.out.cell (HGET.out p hp21); rw [h1, show mz 1000001 = -1 from rfl, HPS.out] at h; exact h
    clear h1
    go_wp2_with fail
    refine bodyPost_ret (v := .tuple #[.int .i64 0, .slice none 0 0, .bool false]) (by simp [results, Try.results29, go_sem]) rfl ⟨⟨E, HEE.out, .inl ⟨HE1.out, rfl⟩⟩, HB3.out⟩
  · have hnd : Nd E p := ⟨by omega, by have := HBD.out p hp21; omega⟩
    have HND := Lib.hid hnd
    have cp : w3.cell? ⟨w.heap.size, 12 + s, none⟩ = some (.int .i64 (gt E (p : Int))) := by have h := HR3.out.cell (HGET.out p hp21); rw [HGT.out p hnd] at h; rw [← HPS.out]; exact h
    have hpn : ¬ gt E (p : Int) < 0 := by have := hnd.tk; omega
    have O0 := own_one w3 (w.heap.size + 1) (12 + (s : Int)) (by have := HR3.out.lt; omega)
    have R4 : RI (w3.alloc (.cells #[.int .i64 (12 + (s : Int))] 3)) w.heap.size (E.map mz) := hup _ HR3.out
    have B4 := Lib.hid (HB3.out.trans ((bel1 w3 (.cells #[.int .i64 (12 + (s : Int))] 3)).mono HB3.out.size))
    have HR4 := Lib.hid R4
    have HO0 := Lib.hid O0
    clear O0 R4 hnd h1
    go_wp2_with fail
    go_loopg [14, 15] 1000001 (fun g s14 s15 wr => ∃ (n : Nat) (acc : List Int), s14 = .int .i64 (n : Nat) ∧ wr.ownsRow (w.heap.size + 1) 3 1 s15 (acc.length + 1) (ints ((n : Int) :: acc)) ∧ Nd E n ∧ Hid (∀ l, Chn nx c n l → Chn nx c p (l ++ acc)) ∧ RI wr w.heap.size (E.map mz) ∧ Below w.heap.size w wr ∧ (gt E (n : Int)).toNat < g ∧ acc.length + g = 1000001)
    case atStart => exact ⟨p, [], by rw [HPI.out], by rw [HPI.out]; exact HO0.out, HND.out, Lib.hid (fun l h => by simpa using h), HR4.out, B4.out, by have := HND.out.tk; omega, rfl⟩
    case round =>
      clear HO0 HR4 B4 HR3 HB3 cp eap
      obtain ⟨n, acc, rfl, hO, hN, HC, hA, hBe, hg1, hg2⟩ := hrel
      have HO := Lib.hid hO
      have HN := Lib.hid hN
      have HA := Lib.hid hA
      have HBE := Lib.hid hBe
      have HG := Lib.hid (And.intro hg1 hg2)
      have hlacc : acc.length ≤ 1000001 := by omega
      have hn21 : n < 21 := by have := hN.rg; omega
      have hni : (n : Int) < 21 := by omega
      by_cases hnc : n = c
      · obtain ⟨As, cs, rfl⟩ := own_shape hO
        have HFIN : Hid (Chn nx c p ((c : Int) :: acc)) := Lib.hid (by have h := HC.out [(c : Int)] (by rw [hnc]; exact HBASE.out); simpa using h)
        have HRD : Hid (RdI wr wr.heap.size .i64 As ((c : Int) :: acc)) := Lib.hid (by rw [← hnc]; exact own_RdI hO)
        have cp : wr.cell? ⟨w.heap.size, 12 + s, none⟩ = some (.int .i64 (gt E (p : Int))) := by have h := hA.cell (HGET.out p hp21); rw [HGT.out p HND.out] at h; rw [← HPS.out]; exact h
        have eap : (⟨w.heap.size, 0, none⟩ : Addr).add (12 + s) = ⟨w.heap.size, 12 + s, none⟩ := ad_add _ _
        clear hO hN hA hBe hg1 hg2
        go_wp2_with fail
        refine bodyPost_ret (v := .tuple #[.int .i64 (gt E (p : Int)), .slice As (acc.length + 1) cs, .bool true]) (by simp [results, Try.results29, go_sem]) rfl ⟨⟨E, HEE.out, .inr ⟨HND.out, As, cs, _, by rw [HCN.out]; exact HFIN.out, rfl, HRD.out⟩⟩, HBE.out⟩
      · have hnci : ¬ (n : Int) = (c : Int) := by omega
        have hncb : ((n : Int) != (c : Int)) = true := by simpa using hnci
        obtain ⟨m, hm, hm12, hmN, hmlt, hmS, hmF⟩ := HBF.out n hN (by omega)
        have HCC : Hid (∀ l, Chn nx c m l → Chn nx c p (l ++ ((n : Int) :: acc))) := Lib.hid (fun l h => by have h2 := HC.out _ (HCH.out n l (by omega) (by rw [hm]; exact h)); simpa using h2)
        have HM := Lib.hid (And.intro hm12 (And.intro hmN (And.intro hmlt (And.intro hmS hmF))))
        obtain ⟨g2, hg2e⟩ : ∃ g2, g2 = gk := ⟨_, rfl⟩
        have HGG : Hid ((gt E (n : Int)).toNat < g2 ∧ acc.length + g2 = 1000001) := Lib.hid (by rw [hg2e]; exact ⟨hg1, hg2⟩)
        have HGE := Lib.hid hg2e
        obtain ⟨gw, cw, rfl⟩ := ownsRow_succ hO
        clear hO hN hA hBe hg1 hg2 hg2e hm hm12 hmN hmlt hmS hmF HG
        go_wp2_with fail
        go_loopg [14, 16] 12 (fun g s14 s16 wr2 => ∃ q : Nat, q + g = 12 ∧ s16 = .int .i64 (q : Nat) ∧ s14 = .int .i64 (n : Nat) ∧ q ≤ m ∧ Below wr.heap.size wr wr2)
        case atStart => exact ⟨0, rfl, rfl, rfl, Nat.zero_le _, Below.refl _ _⟩
        case round =>
          obtain ⟨q, hg, rfl, rfl, hqm, hB2⟩ := hrel
          have B2 := Lib.hid hB2
          have HG := Lib.hid hg
          have HQM := Lib.hid hqm
          have hq12 : q < 12 := by have := HM.out.1; omega
          have hqi : (q : Int) < 12 := by omega
          have hqj : (q : Int) < 21 := by omega
          have hA2 := HA.out.keep hB2
          have cq := hA2.cell (HGET.out q (by omega))
          have cn := hA2.cell (HGET.out n hn21)
          rw [HGT.out n HN.out] at cn
          have eaq : (⟨w.heap.size, 0, none⟩ : Addr).add q = ⟨w.heap.size, q, none⟩ := ad_add _ _
          have ean : (⟨w.heap.size, 0, none⟩ : Addr).add n = ⟨w.heap.size, n, none⟩ := ad_add _ _
          have BW2 := Lib.hid (HBE.out.trans (hB2.mono HBE.out.size))
          have HA2 := Lib.hid hA2
          have hbq := HBD.out q (by omega)
          by_cases hr : gt E (q : Int) = 1000001
          · rw [hr, show mz 1000001 = -1 from rfl] at cq
            have hne : Hid (q ≠ m) := Lib.hid (fun e => by have h := HM.out.2.1.tk; rw [← e] at h; omega)
            clear hg hB2 hA2 hqm hbq hr
            go_wp2_with fail
            go_roundg (gk - 1)
            case measure => have := HG.out; omega
            case rel => exact ⟨q + 1, by have := HG.out; omega, by go_num, rfl, by have h1 := hne.out; have h2 := HQM.out; omega, B2.out⟩
          · have hmq : mz (gt E (q : Int)) = gt E (q : Int) := by unfold mz; rw [if_neg hr]
            rw [hmq] at cq
            have hq0 : ¬ gt E (q : Int) < 0 := by omega
            have HS2 := Lib.hid (HSTP.out q n wr (by omega) BW2.out)
            by_cases hqe : q = m
            · have hse : st (q : Int) n (gt E (q : Int)) size = some (gt E (n : Int)) := by rw [hqe]; exact HM.out.2.2.2.1
              rw [hse] at HS2
              have HQE := Lib.hid hqe
              clear hg hB2 hA2 hqm hbq hr hmq hse hqe
              dsimp only [Option.getD, Option.isSome] at HS2
              go_wp2_with (first
                | (go_at_call 56; with_reducible refine HS2.out.mono ?_; rintro e w5 ⟨rfl, hB5⟩; have cq := below_cell hB5 cq; have cn := below_cell hB5 cn; have B5 := Lib.hid (bt B2.out hB5); have HO5 := Lib.hid (own_kept_below HO.out B5.out); have HA5 := Lib.hid (HA2.out.keep hB5); have BW5 := Lib.hid (BW2.out.trans (hB5.mono BW2.out.size)); clear hB5)
                | (at_builtin; refine wpList_append_own _ rfl (.tmp 68) (.tmp 69) 27 rfl (w.heap.size + 1) 3 i0 (.int .i64 0) 1 8 Try.underlying27 hi hz0 hz1 hz2 rfl (by decide) (.slice (some ⟨w5.heap.size, 0, none⟩) 1 1) 1 (ints [(q : Int)]) rfl (own_one w5 (w.heap.size + 1) (q : Int) (by have := HA5.out.lt; omega)) ⟨gw, 0, none⟩ (acc.length + 1) cw (ints ((n : Int) :: acc)) rfl (by simp [ints]) (own_news (own_kept_below HO5.out (bel1 w5 _))) (by intro y hy; obtain ⟨z, _, rfl⟩ := List.mem_map.1 hy; rfl) (by unfold maxLen; omega) (by omega) (by have := HA5.out.lt; simp; omega) ?_; intro v7 w7 ho7 hg7 _; have HO7 := Lib.hid ho7; have HB7 := Lib.hid (below_grown2 (by have := HA5.out.lt; simp; omega) (own_one w5 (w.heap.size + 1) (q : Int) (by have := HA5.out.lt; omega)) hg7); clear ho7 hg7))
              go_roundg (g2 - 1)
              case measure => have := HGG.out; have := HGE.out; omega
              case rel =>
                refine ⟨q, (n : Int) :: acc, rfl, own_any HO7.out (by simp; omega) (by simp [ints]), by rw [HQE.out]; exact HM.out.2.1, by rw [HQE.out]; exact HCC, ?_, ?_, ?_, ?_⟩
                · exact (HB7.out.block _ (by omega)).trans (hup _ HA5.out)
                · exact (BW5.out.trans ((bel1 w5 _).mono BW5.out.size)).trans (HB7.out.mono (by omega))
                · have h1 := HGG.out; have h2 := HM.out.2.2.1; have h3 := HM.out.2.1.tk; rw [HQE.out]; omega
                · have h1 := HGG.out; have h3 := HN.out.tk; rw [List.length_cons]; omega
            · have hlt : Hid (q < m) := Lib.hid (by have := HQM.out; omega)
              have hsn := HM.out.2.2.2.2 q (by omega)
              clear hg hB2 hA2 hqm hbq hr hmq hqe
              cases hso : st (q : Int) n (gt E (q : Int)) size with
              | none =>
                rw [hso] at HS2
                dsimp only [Option.getD, Option.isSome] at HS2
                clear hsn hso
                go_wp2_with (go_at_call 56; with_reducible refine HS2.out.mono ?_; rintro e w5 ⟨rfl, hB5⟩; have cq := below_cell hB5 cq; have cn := below_cell hB5 cn; have B5 := Lib.hid (bt B2.out hB5); clear hB5)
                go_roundg (gk - 1)
                case measure => have := HG.out; omega
                case rel => exact ⟨q + 1, by have := HG.out; omega, by go_num, rfl, by have h1 := hlt.out; omega, B5.out⟩
              | some v =>
                rw [hso] at HS2 hsn
                dsimp only [Option.getD, Option.isSome] at HS2
                have hvn : ¬ v = gt E (n : Int) := fun e => hsn (by rw [e])
                clear hsn hso
                generalize gt E (n : Int) = gn at *
                generalize gt E (q : Int) = gq at *
                go_wp2_with (go_at_call 56; with_reducible refine HS2.out.mono ?_; rintro e w5 ⟨rfl, hB5⟩; have cq := below_cell hB5 cq; have cn := below_cell hB5 cn; have B5 := Lib.hid (bt B2.out hB5); clear hB5)
                go_roundg (gk - 1)
                case measure => have := HG.out; omega
                case rel => exact ⟨q + 1, by have := HG.out; omega, by go_num, rfl, by have h1 := hlt.out; omega, B5.out⟩
end Q
end Go.Proofs.Ytojflmejkigdiaa
