/-
  The landed Arrival.
-/
import Derived.Test.YtojflmejkigdiaaQMt2
import Derived.Test.YtojflmejkigdiaaQAl
namespace Go.Proofs.Ytojflmejkigdiaa
open Go.RowKit Go.Shelf
namespace Q
open H
set_option linter.unusedVariables false
set_option linter.unusedSimpArgs false
set_option maxRecDepth 100000
/-- What Arrival returns. -/
def ArrP (T : List Wn) (craft : Int) (en : Int) (tick size : Int) (w : World) (e : Ending) (w' : World) : Prop :=
  ∃ E, Erl T craft tick size E ∧ ((gt E en = 1000001 ∧ e = .returned (.tuple #[.int .i64 0, .slice none 0 0, .bool false])) ∨
    (Nd E en ∧ ∃ v l, Chn (fun n => befL E n size (hl T)) craft en l ∧ e = .returned (.tuple #[.int .i64 (gt E en), v, .bool true]) ∧ w'.ownsRow w.heap.size 3 1 v l.length (ints l)))
theorem there_zeros (W : World) : (W.alloc (.cells #[.int .i64 0, .int .i64 0, .int .i64 0, .int .i64 0, .int .i64 0, .int .i64 0, .int .i64 0, .int .i64 0, .int .i64 0, .int .i64 0, .int .i64 0, .int .i64 0, .int .i64 0, .int .i64 0, .int .i64 0, .int .i64 0, .int .i64 0, .int .i64 0, .int .i64 0, .int .i64 0, .int .i64 0] 64)).there W.heap.size 0 21 := fun j hj => by
  have h : Ab (W.alloc (.cells #[.int .i64 0, .int .i64 0, .int .i64 0, .int .i64 0, .int .i64 0, .int .i64 0, .int .i64 0, .int .i64 0, .int .i64 0, .int .i64 0, .int .i64 0, .int .i64 0, .int .i64 0, .int .i64 0, .int .i64 0, .int .i64 0, .int .i64 0, .int .i64 0, .int .i64 0, .int .i64 0, .int .i64 0] 64)) W.heap.size zero21 := heap_top W _
  exact ab_there h j hj
theorem range_gt {V : World} {b : Nat} {E : List Int} (h : V.rangeAt b 0 (E.map (Value.int .i64))) (hl : E.length = 21) {i : Nat} (hi : 12 + i < 21) : V.cell? ⟨b, 12 + i, none⟩ = some (.int .i64 (gt E (12 + (i : Int)))) := by
  have h1 := h (12 + i) (.int .i64 (gt E (12 + (i : Int)))) (by
    have e : (12 + (i : Int)).toNat = 12 + i := by omega
    unfold gt
    rw [e, List.getElem?_map, List.getElem?_eq_getElem (by omega)]
    rfl)
  rwa [Nat.zero_add] at h1
theorem range_call {V V' : World} {b o : Nat} {cs : List Value} (h : V.rangeAt b o cs) (hB : Below V.heap.size V V') : V'.rangeAt b o cs := fun j v hv => below_cell hB (h j v hv)
theorem stored (w w3 : World) (E : List Int) (hl : E.length = 21) (hB3 : Below w.heap.size w w3) (i : Nat) (hi : i < 9) :
    World.rangeAt ((w3.alloc (.cells #[.int .i64 0, .int .i64 0, .int .i64 0, .int .i64 0, .int .i64 0, .int .i64 0, .int .i64 0, .int .i64 0, .int .i64 0, .int .i64 0, .int .i64 0, .int .i64 0, .int .i64 0, .int .i64 0, .int .i64 0, .int .i64 0, .int .i64 0, .int .i64 0, .int .i64 0, .int .i64 0, .int .i64 0] 64)).setCells w3.heap.size 0 (E.map (Value.int .i64))) w3.heap.size 0 (E.map (Value.int .i64)) ∧ Below w.heap.size w ((w3.alloc (.cells #[.int .i64 0, .int .i64 0, .int .i64 0, .int .i64 0, .int .i64 0, .int .i64 0, .int .i64 0, .int .i64 0, .int .i64 0, .int .i64 0, .int .i64 0, .int .i64 0, .int .i64 0, .int .i64 0, .int .i64 0, .int .i64 0, .int .i64 0, .int .i64 0, .int .i64 0, .int .i64 0, .int .i64 0] 64)).setCells w3.heap.size 0 (E.map (Value.int .i64))) ∧ World.cell? ((w3.alloc (.cells #[.int .i64 0, .int .i64 0, .int .i64 0, .int .i64 0, .int .i64 0, .int .i64 0, .int .i64 0, .int .i64 0, .int .i64 0, .int .i64 0, .int .i64 0, .int .i64 0, .int .i64 0, .int .i64 0, .int .i64 0, .int .i64 0, .int .i64 0, .int .i64 0, .int .i64 0, .int .i64 0, .int .i64 0] 64)).setCells w3.heap.size 0 (E.map (Value.int .i64))) ⟨w3.heap.size, 12 + i, none⟩ = some (.int .i64 (gt E (12 + (i : Int)))) := by
  have ht : (w3.alloc (.cells #[.int .i64 0, .int .i64 0, .int .i64 0, .int .i64 0, .int .i64 0, .int .i64 0, .int .i64 0, .int .i64 0, .int .i64 0, .int .i64 0, .int .i64 0, .int .i64 0, .int .i64 0, .int .i64 0, .int .i64 0, .int .i64 0, .int .i64 0, .int .i64 0, .int .i64 0, .int .i64 0, .int .i64 0] 64)).there w3.heap.size 0 (E.map (Value.int .i64)).length := by rw [List.length_map, hl]; exact there_zeros w3
  have hG := World.rangeAt_setCells_same (w3.alloc (.cells #[.int .i64 0, .int .i64 0, .int .i64 0, .int .i64 0, .int .i64 0, .int .i64 0, .int .i64 0, .int .i64 0, .int .i64 0, .int .i64 0, .int .i64 0, .int .i64 0, .int .i64 0, .int .i64 0, .int .i64 0, .int .i64 0, .int .i64 0, .int .i64 0, .int .i64 0, .int .i64 0, .int .i64 0] 64)) w3.heap.size 0 (E.map (Value.int .i64)) ht
  exact ⟨hG, setCells_ind (Z := fun V => Below w.heap.size w V) w3.heap.size (fun V i v h => h.setCell (p := ⟨w3.heap.size, i, none⟩) hB3.size _) (E.map (Value.int .i64)) 0 _ (hB3.alloc hB3.size _), range_gt hG hl (by omega)⟩
set_option maxHeartbeats 8000000 in
theorem parr_any (T : List Wn) (A : Option Addr) (cap B : Nat) (c s : Nat) (tick size : Int) (w : World) (hB : B ≤ w.heap.size) (hlen : T.length ≤ 1000) (hc : c < 12) (hst : s < 9) (ht : 0 ≤ tick ∧ tick ≤ 1000000) (hs : 1 ≤ size ∧ size ≤ 100000) (hR : RdsWn w B A T) :
    Calls Try.prog 28 #[.slice A T.length cap, .int .i64 (c : Int), .int .i64 (s : Int), .int .i64 tick, .int .i64 size] w fun e w' => ArrP T c (12 + s) tick size w e w' ∧ Below w.heap.size w w' := by
  have HB1 := Lib.hid (fun W => pbelow_any (c : Int) 12 W)
  have HB2 := Lib.hid (fun W => pbelow_any (s : Int) 9 W)
  rw [decide_eq_true (show (0 : Int) ≤ (c : Int) ∧ (c : Int) < 12 by omega)] at HB1
  rw [decide_eq_true (show (0 : Int) ≤ (s : Int) ∧ (s : Int) < 9 by omega)] at HB2
  have HE := Lib.hid (fun W (hW : Below w.heap.size w W) => pearly_any T A cap B c tick size W (Nat.le_trans hB hW.size) hlen hc ht hs (hR.below (hW.mono hB)))
  have HW : Hid (∀ W E, Below w.heap.size w W → Erl T c tick size E → Nd E (12 + (s : Int)) → Calls Try.prog 54 #[.slice A T.length cap, av E, .int .i64 (c : Int), .int .i64 (12 + (s : Int)), .int .i64 size] W fun e w' => ∃ v l, e = .returned v ∧ Chn (fun n => befL E n size (hl T)) c (12 + (s : Int)) l ∧ w'.ownsRow W.heap.size 3 1 v l.length (ints l) ∧ Below W.heap.size W w') := Lib.hid (fun W E hW hE hn =>
    pway_any T A cap B E c (12 + (s : Int)) size W (Nat.le_trans hB hW.size) hlen hE.ok hs (hR.below (hW.mono hB)) (by omega) hn (fun n => befL E n size (hl T)) (fun _ => rfl) (fun n h1 h2 => ⟨(bef_nd hs.1 (by omega) ht hE h1 h2).1, (bef_nd hs.1 (by omega) ht hE h1 h2).2.1⟩))
  have hs1 : ¬ size < 1 := by omega
  have hw12 : wrap64 (12 + (s : Int)) = 12 + (s : Int) := IntWalk.wrap64_in _ (by omega)
  have hi0 : (0 : Int) ≤ 12 + (s : Int) := by omega
  have hi1 : 12 + (s : Int) < 21 := by omega
  have hit : (12 + (s : Int)).toNat = 12 + s := by omega
  clear hR hB ht hs
  generalize hl' : T.length = len at *
  clear hl'
  go_enter Try.func28, Try.ntmps28
  go_wp2_with (first
    | (go_at_call 52; with_reducible refine (HB1.out _).mono ?_; rintro e w2 ⟨rfl, hw⟩; rw [hw]; clear hw w2)
    | (go_at_call 52; with_reducible refine (HB2.out _).mono ?_; rintro e w2 ⟨rfl, hw⟩; rw [hw]; clear hw w2)
    | (go_at_call 53; refine (HE.out _ (Below.refl _ _)).mono ?_; rintro e w3 ⟨E, rfl, hE, hB3⟩; have hez : ((E.map (Value.int .i64)).toArray).size = 21 := (by simp [hE.ok.len]); have hth : (w3.alloc (.cells #[.int .i64 0, .int .i64 0, .int .i64 0, .int .i64 0, .int .i64 0, .int .i64 0, .int .i64 0, .int .i64 0, .int .i64 0, .int .i64 0, .int .i64 0, .int .i64 0, .int .i64 0, .int .i64 0, .int .i64 0, .int .i64 0, .int .i64 0, .int .i64 0, .int .i64 0, .int .i64 0, .int .i64 0] 64)).there w3.heap.size 0 ((E.map (Value.int .i64)).toArray).size := (by rw [hez]; exact there_zeros w3); have hsz2 : (Try.prog.info? 64).map (·.size) = some ((E.map (Value.int .i64)).toArray).size := (by rw [hez]; exact sizeA); clear hez)
    | (refine wpList_alloc64 rfl rfl ?_)
    | (refine wpList_store_mid rfl 64 (.tmp 13) (.tmp 31) rfl w3.heap.size 0 (E.map (Value.int .i64)).toArray rfl rfl hth hsz2 (all_oneCell_toArray (by intro v hv; obtain ⟨z, _, rfl⟩ := List.mem_map.1 hv; rfl)) ?_; change wpList _ _ _ _ _ ((w3.alloc (.cells #[.int .i64 0, .int .i64 0, .int .i64 0, .int .i64 0, .int .i64 0, .int .i64 0, .int .i64 0, .int .i64 0, .int .i64 0, .int .i64 0, .int .i64 0, .int .i64 0, .int .i64 0, .int .i64 0, .int .i64 0, .int .i64 0, .int .i64 0, .int .i64 0, .int .i64 0, .int .i64 0, .int .i64 0] 64)).setCells w3.heap.size 0 (E.map (Value.int .i64))); have hst3 := stored w w3 E hE.ok.len hB3 s hst; generalize (w3.alloc (.cells #[.int .i64 0, .int .i64 0, .int .i64 0, .int .i64 0, .int .i64 0, .int .i64 0, .int .i64 0, .int .i64 0, .int .i64 0, .int .i64 0, .int .i64 0, .int .i64 0, .int .i64 0, .int .i64 0, .int .i64 0, .int .i64 0, .int .i64 0, .int .i64 0, .int .i64 0, .int .i64 0, .int .i64 0] 64)).setCells w3.heap.size 0 (E.map (Value.int .i64)) = V at *; obtain ⟨hG, hBW, cI⟩ := hst3; have HEE := Lib.hid hE; clear hth hE))
  · rename_i h
    exact bodyPost_ret (v := .tuple #[.int .i64 0, .slice none 0 0, .bool false]) (by simp [results, Try.results28, go_sem]) rfl ⟨⟨E, HEE.out, .inl ⟨by simpa using h, rfl⟩⟩, hBW⟩
  · have hne : gt E (12 + (s : Int)) ≠ 1000001 := by have h := ‹(gt E (12 + (s : Int)) == 1000001) = false›; simpa using h
    have hbd := HEE.out.ok.bd (12 + s) (by omega)
    have e12 : ((12 + s : Nat) : Int) = 12 + (s : Int) := by omega
    rw [e12] at hbd
    have hnd : Nd E (12 + (s : Int)) := ⟨⟨by omega, by omega⟩, by omega⟩
    have HND := Lib.hid hnd
    have hu := Try.underlying64
    have hi : (Try.prog.info? 64).map (·.size) = some (E.map (Value.int .i64)).length := by rw [List.length_map, HEE.out.ok.len]; exact sizeA
    have hGd := range_call hG (below_drew V)
    have cId := cell_drw cI
    have HBV := Lib.hid (bt hBW (below_drew V))
    have HWW := Lib.hid (HW.out V.drew E HBV.out HEE.out HND.out)
    clear hnd hne hbd e12 hG cI hsz2
    generalize hz : gt E (12 + (s : Int)) = z at *
    have HZ := Lib.hid hz
    clear hz
    go_region_held3 (fun X => X.rangeAt w3.heap.size 0 (E.map (Value.int .i64)) ∧ X.cell? ⟨w3.heap.size, 12 + s, none⟩ = some (.int .i64 z)) (with_reducible (first | exact ⟨hGd, cId⟩ | exact ⟨hG9, cI9⟩))
      ((go_at_call 54; with_reducible refine HWW.out.mono ?_; rintro e w9 ⟨v9, l9, rfl, hch, hO9, hB9⟩; have hG9 := range_call hGd hB9; have cI9 := below_cell hB9 cId; obtain ⟨A9, c9, rfl⟩ := own_shape hO9))
    all_goals go_wp2_with fail
    all_goals refine bodyPost_ret (v := .tuple #[.int .i64 z, .slice A9 l9.length c9, .bool true]) (by simp [results, Try.results28, go_sem]) rfl ⟨⟨E, HEE.out, .inr ⟨HND.out, _, l9, hch, by rw [HZ.out], own_base hO9 HBV.out.size⟩⟩, bt HBV.out hB9⟩
end Q
end Go.Proofs.Ytojflmejkigdiaa
