/-
  The landed way.
-/
import Derived.Test.YtojflmejkigdiaaQBef
import Derived.Test.YtojflmejkigdiaaQPl
namespace Go.Proofs.Ytojflmejkigdiaa
open Go.RowKit Go.Shelf
namespace Q
open H
set_option linter.unusedVariables false
set_option linter.unusedSimpArgs false
set_option maxRecDepth 100000
/-- The nodes from the craft to a node. -/
inductive Chn (nx : Int → Int) (craft : Int) : Int → List Int → Prop
  | base : Chn nx craft craft [craft]
  | step {n : Int} {l : List Int} : n ≠ craft → Chn nx craft (nx n) l → Chn nx craft n (l ++ [n])
theorem Chn.one {nx : Int → Int} {craft n : Int} {l l' : List Int} (h : Chn nx craft n l) (h' : Chn nx craft n l') : l = l' := by
  induction h generalizing l' with
  | base =>
    cases h' with
    | base => rfl
    | step hn _ => exact absurd rfl hn
  | step hn _ ih =>
    cases h' with
    | base => exact absurd rfl hn
    | step _ h2 => rw [ih h2]
/-- A node that can be reached. -/
structure Nd (E : List Int) (n : Int) : Prop where
  rg : 0 ≤ n ∧ n < 21
  tk : 0 ≤ gt E n ∧ gt E n < 1000001
theorem own_one (W : World) (base : Nat) (z : Int) (hb : base ≤ W.heap.size) : (W.alloc (.cells #[.int .i64 z] 3)).ownsRow base 3 1 (.slice (some ⟨W.heap.size, 0, none⟩) 1 1) 1 (ints [z]) :=
  ⟨rfl, .inr ⟨W.heap.size, 1, #[.int .i64 z], rfl, hb, heap_top W _, Nat.le_refl _, by unfold maxLen; omega, rfl, rfl⟩⟩
set_option maxHeartbeats 8000000 in
theorem pway_any (T : List Wn) (A : Option Addr) (cap B : Nat) (E : List Int) (craft nd size : Int) (w : World) (hB : B ≤ w.heap.size) (hlen : T.length ≤ 1000) (hE : Aok E) (hs : 1 ≤ size ∧ size ≤ 100000) (hR : RdsWn w B A T)
    (hcr : 0 ≤ craft ∧ craft < 12) (hnd : Nd E nd) (nx : Int → Int) (hnxe : ∀ n, befL E n size (hl T) = nx n) (hnx : ∀ n, Nd E n → n ≠ craft → Nd E (nx n) ∧ gt E (nx n) < gt E n) :
    Calls Try.prog 54 #[.slice A T.length cap, av E, .int .i64 craft, .int .i64 nd, .int .i64 size] w fun e w' => ∃ v l, e = .returned v ∧ Chn nx craft nd l ∧ w'.ownsRow w.heap.size 3 1 v l.length (ints l) ∧ Below w.heap.size w w' := by
  obtain ⟨i0, hi, hz0, hz1, hz2⟩ := info_parts infoI
  have HBEF : Hid (∀ (W : World) n, Below w.heap.size w W → Nd E n → Calls Try.prog 67 #[.slice A T.length cap, av E, .int .i64 n, .int .i64 size] W fun e w' => e = .returned (.int .i64 (nx n)) ∧ Below W.heap.size W w') := Lib.hid (fun W n hW hn => by
    obtain ⟨j, rfl⟩ : ∃ j : Nat, n = j := ⟨n.toNat, by have := hn.rg; omega⟩
    have h := pbef_any T A cap B E j size W (Nat.le_trans hB hW.size) hlen hE (by have := hn.rg; omega) hs (hR.below (hW.mono hB))
    rwa [hnxe] at h)
  have HREV := Lib.hid (fun (W : World) v zs (h1 : zs.length ≤ 140737488351232) (h2 : zs ≠ []) h => prev_any (w.heap.size + 1) v zs W h1 h2 h)
  have HNX := Lib.hid hnx
  have HND := Lib.hid hnd
  have hsz : (Try.prog.info? 64).map (·.size) = some (E.map (Value.int .i64)).length := by rw [List.length_map, hE.len]; exact sizeA
  have HSTEP : Hid (∀ n l, n ≠ craft → Chn nx craft (nx n) l → Chn nx craft n (l ++ [n])) := Lib.hid (fun n l h1 h2 => .step h1 h2)
  have HBASE : Hid (Chn nx craft craft [craft]) := Lib.hid .base
  have HEE := Lib.hid hE
  clear hnx hnxe hnd hR hB hE
  generalize hl' : T.length = len at *
  clear hl'
  go_enter Try.func54, Try.ntmps54
  go_wp2_with fail
  have A0 : Ab ((w.alloc (.cells (E.map (Value.int .i64)).toArray 64)).alloc (.cells #[.int .i64 nd] 3)) w.heap.size E := hup _ (heap_top w _)
  have O0 := own_one (w.alloc (.cells (E.map (Value.int .i64)).toArray 64)) (w.heap.size + 1) nd (by simp)
  rw [World.size_alloc] at O0
  have B0 : Below w.heap.size w ((w.alloc (.cells (E.map (Value.int .i64)).toArray 64)).alloc (.cells #[.int .i64 nd] 3)) := bel2 w _ _
  go_loopg [11, 12] 1000001 (fun g s11 s12 wr => ∃ (n : Int) (acc : List Int), s12 = .int .i64 n ∧ wr.ownsRow (w.heap.size + 1) 3 1 s11 (acc.length + 1) (ints (acc ++ [n])) ∧ Nd E n ∧ Hid (∀ l, Chn nx craft n l → Chn nx craft nd (l ++ acc.reverse)) ∧ Ab wr w.heap.size E ∧ Below w.heap.size w wr ∧ w.heap.size + 1 ≤ wr.heap.size ∧ (gt E n).toNat < g ∧ acc.length + g = 1000001)
  case atStart => exact ⟨nd, [], rfl, O0, HND.out, Lib.hid (fun l h => by simpa using h), A0, B0, by simp, by have := HND.out.tk; omega, rfl⟩
  case round =>
    obtain ⟨n, acc, rfl, hO, hN, HC, hA, hBe, hsz1, hg1, hg2⟩ := hrel
    have HO := Lib.hid hO
    have HN := Lib.hid hN
    have HA := Lib.hid hA
    have HBE := Lib.hid hBe
    have HG := Lib.hid (And.intro hg1 hg2)
    have hcs := ab_range hA
    have hlacc : acc.length ≤ 1000001 := by omega
    by_cases hnc : n = craft
    · obtain ⟨As, cs, rfl⟩ := own_shape hO
      have hlen2 : (acc ++ [n]).length = acc.length + 1 := by simp
      have HR2 := Lib.hid (HREV.out wr (.slice As (acc.length + 1) cs) (acc ++ [n]) (by omega) (by simp) (by rw [hlen2]; exact hO))
      have HFIN : Hid (Chn nx craft nd (acc ++ [n]).reverse) := Lib.hid (by have h := HC.out [craft] (by rw [hnc]; exact HBASE.out); rw [hnc]; simpa using h)
      clear hO hN hA hBe hcs hg1 hg2
      go_wp2_with (go_at_call 68; refine HR2.out.mono ?_; rintro e w3 ⟨rfl, hO3, hG3⟩)
      have hB3 : Below w.heap.size w w3 := HBE.out.grown hG3 HBE.out.size (fun k e => by
        rcases HO.out.2 with ⟨h0, _⟩ | ⟨g, cap, cur, h0, hgl, hgb, _⟩
        · rw [h0] at e; simp [Value.ownBlock] at e
        · rw [h0] at e
          obtain rfl : g = k := by simpa [Value.ownBlock] using e
          omega)
      have hO4 := own_base hO3 (show w.heap.size ≤ w.heap.size + 1 by omega)
      have hl3 : (acc ++ [n]).reverse.length = (acc ++ [n]).length := List.length_reverse
      rw [← hl3] at hO4
      go_ret
      exact ⟨_, _, rfl, HFIN.out, hO4, hB3⟩
    · have hx := HNX.out n hN hnc
      have HB1 := Lib.hid (HBEF.out wr n hBe hN)
      have HX := Lib.hid hx
      have HCC : Hid (∀ l, Chn nx craft (nx n) l → Chn nx craft nd (l ++ (acc ++ [n]).reverse)) := Lib.hid (fun l h => by have h2 := HC.out _ (HSTEP.out n l hnc h); simpa using h2)
      have hob := HO.out
      clear hO hN hA hBe hx
      generalize hm : nx n = m at *
      go_wp2_with (first
        | (refine wpList_load_mid rfl 64 (.tmp 6) rfl w.heap.size 0 rfl (E.map (Value.int .i64)) _ hcs Try.underlying64 rfl hsz ?_)
        | (go_at_call 67; refine HB1.out.mono ?_; rintro e w3 ⟨rfl, hB3⟩; have HB3 := Lib.hid hB3; clear hB3)
        | (at_builtin; refine wpList_append_new rfl (.tmp 24) (.tmp 26) 27 rfl (w.heap.size + 1) 3 i0 (.int .i64 0) 1 8 Try.underlying27 hi hz0 hz1 hz2 rfl (by decide) u11 (acc.length + 1) (ints (acc ++ [n])) rfl (own_kept_below HO.out (bt HB3.out (bel1 _ _))) w3.heap.size 1 [.int .i64 m] rfl rfl (cell_new1 _ _ _) (by intro y hy; rw [List.mem_singleton.1 hy]; rfl) (by unfold maxLen; omega) (by omega) (by have := HB3.out.size; simp; omega) ?_; intro v2 w5 ho2 hB5; have HO2 := Lib.hid ho2; have HB5 := Lib.hid hB5; clear ho2 hB5))
      have A5 : Ab w5 w.heap.size E := (HB5.out.block _ (by omega)).trans (heap_keep (bt HB3.out (bel1 _ _)) HA.out)
      have B5 : Below w.heap.size w w5 := (bt HBE.out (bt HB3.out (bel1 _ _))).trans (HB5.out.mono (by omega))
      have hs5 : w.heap.size + 1 ≤ w5.heap.size := by have := HB5.out.size; have := HB3.out.size; simp at *; omega
      go_roundg (gk - 1)
      case measure => have := HG.out; omega
      case rel =>
        refine ⟨m, acc ++ [n], rfl, ?_, HX.out.1, HCC, A5, B5, hs5, ?_, ?_⟩
        · exact own_any HO2.out (by simp) (by simp [ints])
        · have h1 := HX.out.1.tk; have h2 := HX.out.2; have h3 := HG.out; omega
        · have h3 := HG.out; rw [List.length_append, List.length_singleton]; omega
end Q
end Go.Proofs.Ytojflmejkigdiaa
