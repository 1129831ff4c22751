/-
  The examples of the chapter.
-/
import Derived.Test.YtojflmejkigdiaaQArr
import Derived.Test.YtojflmejkigdiaaQChk2
import Derived.Test.YtojflmejkigdiaaQTks
namespace Go.Proofs.Ytojflmejkigdiaa
open Go.RowKit Go.Shelf
namespace Q
open H
set_option linter.unusedVariables false
set_option linter.unusedSimpArgs false
set_option maxRecDepth 100000
/-- Two lists that nothing changes any more are one. -/
theorem itr_add (H : List Hp) (size : Int) (l : List Int) : ∀ j k, itr H size (k + j) l = itr H size j (itr H size k l)
  | 0, _ => rfl
  | j + 1, k => by show pass H size (itr H size (k + j) l) = pass H size (itr H size j (itr H size k l)); rw [itr_add H size l j k]
theorem itr_fix {H : List Hp} {size : Int} {E : List Int} (h : pass H size E = E) : ∀ j, itr H size j E = E
  | 0 => rfl
  | j + 1 => by show pass H size (itr H size j E) = E; rw [itr_fix h j, h]
theorem itr_one {H : List Hp} {size : Int} {l E F : List Int} {j k : Nat} (h1 : E = itr H size j l) (h2 : pass H size E = E) (h3 : F = itr H size k l) (h4 : pass H size F = F) : E = F := by
  have a := itr_add H size l k j
  have b := itr_add H size l j k
  rw [← h1, itr_fix h2] at a
  rw [← h3, itr_fix h4] at b
  rw [← a, ← b, Nat.add_comm]
def tb3 : List Wn := [⟨1, 0, 0, 10, 20, 10⟩, ⟨2, 0, 1, 12, 30, 5⟩, ⟨1, 1, 1, 25, 40, 20⟩]
def hp3 : List Hp := [⟨0, 12, ⟨1, 0, 0, 10, 20, 10⟩⟩, ⟨0, 1, ⟨2, 0, 1, 12, 30, 5⟩⟩, ⟨1, 0, ⟨2, 0, 1, 12, 30, 5⟩⟩, ⟨1, 13, ⟨1, 1, 1, 25, 40, 20⟩⟩]
/-- The hops of a table, computed without their proofs. -/
def hopsW (x : Wn) : List Hp := there x :: (if far x < 12 then [back x] else [])
theorem hl_eq (T : List Wn) : hl T = (T.filter lkOk).flatMap hopsW := by
  have h : ∀ pre : List (El T lkOk), (hq pre).map (·.1) = (pre.map (·.1)).flatMap hopsW := by
    intro pre
    induction pre with
    | nil => rfl
    | cons x l ih =>
      have e : hq (x :: l) = hopsE x ++ hq l := by simp [hq]
      rw [e, List.map_append, ih, List.map_cons, List.flatMap_cons]
      congr 1
      unfold hopsE hopsW
      split <;> simp
  unfold hl hopsL
  rw [h, all_map]
theorem hl3 : hl tb3 = hp3 := by rw [hl_eq]; kernel_rfl
def e3 : List Int := [0, 22, 1000001, 1000001, 1000001, 1000001, 1000001, 1000001, 1000001, 1000001, 1000001, 1000001, 15, 28, 1000001, 1000001, 1000001, 1000001, 1000001, 1000001, 1000001]
theorem erl3 {E : List Int} (h : Erl tb3 (0 : Nat) 0 50 E) : E = e3 := by
  obtain ⟨k, hk⟩ := h.steps
  rw [hl3] at hk
  have hf := h.last
  rw [hl3] at hf
  exact itr_one hk hf (show e3 = itr hp3 50 1 (ini (0 : Nat) 0) by decide +kernel) (by decide +kernel)
theorem chn12 {l : List Int} (h : Chn (fun n => befL e3 n 50 (hl tb3)) (0 : Nat) (12 + (0 : Nat)) l) : l = [0, 12] := by
  have h2 : Chn (fun n => befL e3 n 50 (hl tb3)) (0 : Nat) (12 + (0 : Nat)) ([0] ++ [12]) := by
    refine .step (by decide) ?_
    have e : befL e3 (12 + (0 : Nat)) 50 (hl tb3) = ((0 : Nat) : Int) := by rw [hl3]; decide +kernel
    rw [e]
    exact .base
  exact h.one h2
theorem chn13 {l : List Int} (h : Chn (fun n => befL e3 n 50 (hl tb3)) (0 : Nat) (12 + (1 : Nat)) l) : l = [0, 1, 13] := by
  have h2 : Chn (fun n => befL e3 n 50 (hl tb3)) (0 : Nat) (12 + (1 : Nat)) (([0] ++ [1]) ++ [13]) := by
    refine .step (by decide) ?_
    have e : befL e3 (12 + (1 : Nat)) 50 (hl tb3) = 1 := by rw [hl3]; decide +kernel
    rw [e]
    refine .step (by decide) ?_
    have e : befL e3 1 50 (hl tb3) = ((0 : Nat) : Int) := by rw [hl3]; decide +kernel
    rw [e]
    exact .base
  exact h.one h2
abbrev c18 : Array Value := #[.int .i64 1, .int .i64 0, .int .i64 0, .int .i64 10, .int .i64 20, .int .i64 10, .int .i64 2, .int .i64 0, .int .i64 1, .int .i64 12, .int .i64 30, .int .i64 5, .int .i64 1, .int .i64 1, .int .i64 1, .int .i64 25, .int .i64 40, .int .i64 20]
set_option maxHeartbeats 4000000 in
theorem example_any (w : World) : Calls Try.prog 41 #[] w fun e w' => e = .returned (.slice (some ⟨w.heap.size, 0, none⟩) 3 3) ∧ w' = w.alloc (.cells c18 31) := by
  go_enter Try.func41, Try.ntmps41
  go_wp2_with fail
  go_ret
  exact ⟨rfl, rfl⟩
/-- What lives holds: the table in its block. -/
structure Lv (w : World) (W : World) : Prop where
  tab : W.heap[w.heap.size]? = some (.cells c18 31 (0, 0))
  lt : w.heap.size + 1 ≤ W.heap.size
  bel : Below w.heap.size w W
theorem Lv.call {w W V : World} (h : Lv w W) (hB : Below W.heap.size W V) : Lv w V := ⟨heap_keep hB h.tab, Nat.le_trans h.lt hB.size, bt h.bel hB⟩
theorem Lv.alloc {w W : World} (h : Lv w W) (o : Obj) : Lv w (W.alloc o) := h.call (bel1 W o)
theorem Lv.drew {w W : World} (h : Lv w W) : Lv w W.drew := h.call (below_drew W)
theorem Lv.start (w : World) : Lv w (w.alloc (.cells c18 31)) := ⟨heap_top w _, by simp, bel1 w _⟩
theorem Lv.rds {w W : World} (h : Lv w W) : RdsWn W (w.heap.size + 1) (some ⟨w.heap.size, 0, none⟩) tb3 := by
  have ht := h.tab
  intro j x hx
  match j, hx with
  | 0, hx => obtain rfl := Option.some.inj hx; refine ⟨_, rfl, Nat.lt_succ_self _, ?_⟩; rw [ad_add]; constructor <;> simp [World.cell?, ht]
  | 1, hx => obtain rfl := Option.some.inj hx; refine ⟨_, rfl, Nat.lt_succ_self _, ?_⟩; rw [ad_add]; constructor <;> simp [World.cell?, ht]
  | 2, hx => obtain rfl := Option.some.inj hx; refine ⟨_, rfl, Nat.lt_succ_self _, ?_⟩; rw [ad_add]; constructor <;> simp [World.cell?, ht]
  | j + 3, hx => simp [tb3] at hx
theorem tb3_tok : ∀ x ∈ tb3, Tok x := by
  intro x hx
  simp [tb3] at hx
  rcases hx with rfl | rfl | rfl <;> constructor <;> decide
structure Lw (w : World) (b : Nat) (A2 A3 : Option Addr) (W : World) : Prop where
  lv : Lv w W
  box : W.heap[b]? = some (.cells #[.int .i64 1, .int .i64 1, .int .i64 1, .int .i64 25, .int .i64 40, .int .i64 20] 31 (0, 0))
  r2 : RdI W W.heap.size .i64 A2 [0, 12]
  r3 : RdI W W.heap.size .i64 A3 [0, 1, 13]
theorem Lw.call {w W V : World} {b : Nat} {A2 A3 : Option Addr} (h : Lw w b A2 A3 W) (hB : Below W.heap.size W V) : Lw w b A2 A3 V := ⟨h.lv.call hB, heap_keep hB h.box, (h.r2.below hB).more hB.size, (h.r3.below hB).more hB.size⟩
theorem Lw.alloc {w W : World} {b : Nat} {A2 A3 : Option Addr} (h : Lw w b A2 A3 W) (o : Obj) : Lw w b A2 A3 (W.alloc o) := h.call (bel1 W o)
theorem Lw.s {w W : World} {b : Nat} {A2 A3 : Option Addr} (h : Lw w b A2 A3 W) : W.cell? ⟨w.heap.size, 12, none⟩ = some (.int .i64 1) ∧ W.cell? ⟨w.heap.size, 13, none⟩ = some (.int .i64 1) ∧ W.cell? ⟨w.heap.size, 14, none⟩ = some (.int .i64 1) ∧ W.cell? ⟨w.heap.size, 15, none⟩ = some (.int .i64 25) ∧ W.cell? ⟨w.heap.size, 16, none⟩ = some (.int .i64 40) ∧ W.cell? ⟨w.heap.size, 17, none⟩ = some (.int .i64 20) ∧ W.cell? ⟨b, 0, none⟩ = some (.int .i64 1) ∧ W.cell? ⟨b, 1, none⟩ = some (.int .i64 1) ∧ W.cell? ⟨b, 2, none⟩ = some (.int .i64 1) ∧ W.cell? ⟨b, 3, none⟩ = some (.int .i64 25) ∧ W.cell? ⟨b, 4, none⟩ = some (.int .i64 40) ∧ W.cell? ⟨b, 5, none⟩ = some (.int .i64 20) := by
  have h1 := h.lv.tab
  have h2 := h.box
  simp [World.cell?, h1, h2]
abbrev x3 : Wn := ⟨1, 1, 1, 25, 40, 20⟩
set_option maxHeartbeats 8000000 in
theorem lives_any (w : World) : Calls Try.prog 15 #[] w fun e w' => e = .returned (.bool true) ∧ Below w.heap.size w w' := by
  have HEX := Lib.hid (fun W => example_any W)
  have HA0 : Hid (∀ W, Lv w W → Calls Try.prog 28 #[.slice (some ⟨w.heap.size, 0, none⟩) 3 3, .int .i64 0, .int .i64 0, .int .i64 0, .int .i64 50] W fun e w' => ∃ A c, e = .returned (.tuple #[.int .i64 15, .slice A 2 c, .bool true]) ∧ RdI w' w'.heap.size .i64 A [0, 12] ∧ Below W.heap.size W w') := Lib.hid (fun W hW => by
    refine (parr_any tb3 (some ⟨w.heap.size, 0, none⟩) 3 (w.heap.size + 1) 0 0 0 50 W hW.lt (by decide) (by omega) (by omega) (by omega) (by omega) hW.rds).mono ?_
    rintro e w' ⟨⟨E, hE, h⟩, hB⟩
    obtain rfl := erl3 hE
    rcases h with ⟨h1, _⟩ | ⟨_, v, l, hc, rfl, hO⟩
    · exact absurd h1 (by decide +kernel)
    · obtain rfl := chn12 hc
      obtain ⟨A, c, rfl⟩ := own_shape hO
      exact ⟨A, c, by rw [show gt e3 (12 + ((0 : Nat) : Int)) = 15 by decide +kernel]; rfl, own_RdI hO, hB⟩)
  have HA1 : Hid (∀ W, Lv w W → Calls Try.prog 28 #[.slice (some ⟨w.heap.size, 0, none⟩) 3 3, .int .i64 0, .int .i64 1, .int .i64 0, .int .i64 50] W fun e w' => ∃ A c, e = .returned (.tuple #[.int .i64 28, .slice A 3 c, .bool true]) ∧ RdI w' w'.heap.size .i64 A [0, 1, 13] ∧ Below W.heap.size W w') := Lib.hid (fun W hW => by
    refine (parr_any tb3 (some ⟨w.heap.size, 0, none⟩) 3 (w.heap.size + 1) 0 1 0 50 W hW.lt (by decide) (by omega) (by omega) (by omega) (by omega) hW.rds).mono ?_
    rintro e w' ⟨⟨E, hE, h⟩, hB⟩
    obtain rfl := erl3 hE
    rcases h with ⟨h1, _⟩ | ⟨_, v, l, hc, rfl, hO⟩
    · exact absurd h1 (by decide +kernel)
    · obtain rfl := chn13 hc
      obtain ⟨A, c, rfl⟩ := own_shape hO
      exact ⟨A, c, by rw [show gt e3 (12 + ((1 : Nat) : Int)) = 28 by decide +kernel]; rfl, own_RdI hO, hB⟩)
  have HAT : Hid (∀ W, Lv w W → Calls Try.prog 18 #[.slice (some ⟨w.heap.size, 0, none⟩) 3 3, .int .i64 1, .int .i64 1, .int .i64 1, .int .i64 39] W fun e w' => e = .returned (.tuple #[x3.v, .bool true]) ∧ Below W.heap.size W w') := Lib.hid (fun W hW => pAt_any tb3 (some ⟨w.heap.size, 0, none⟩) 3 (w.heap.size + 1) 1 1 1 39 W hW.lt (by decide) hW.rds)
  have HCK : Hid (∀ W, Lv w W → Calls Try.prog 13 #[.slice (some ⟨w.heap.size, 0, none⟩) 3 3] W fun e w' => e = .returned (.int .i64 0) ∧ Below W.heap.size W w') := Lib.hid (fun W hW => by
    have h := pcheck_any tb3 (some ⟨w.heap.size, 0, none⟩) 3 (w.heap.size + 1) W hW.lt (by decide) (by decide) hW.rds
    rwa [show chk tb3 = 0 by decide +kernel] at h)
  have HTI : Hid (∀ W, Lv w W → Calls Try.prog 22 #[.slice (some ⟨w.heap.size, 0, none⟩) 3 3, .int .i64 1, .int .i64 0, .int .i64 0, .int .i64 15, .int .i64 100] W fun e w' => e = .returned (.int .i64 5) ∧ Below W.heap.size W w') := Lib.hid (fun W hW => by
    have h := pticks_any tb3 (some ⟨w.heap.size, 0, none⟩) 3 (w.heap.size + 1) 1 0 0 15 100 W hW.lt (by decide) tb3_tok hW.rds
    rwa [show tick tb3 1 0 0 15 100 = 5 by decide +kernel] at h)
  have HS2 : Hid (∀ W A A' c c', RdI W W.heap.size .i64 A [0, 12] → RdI W W.heap.size .i64 A' [0, 12] → Calls Try.prog 25 #[.slice A 2 c, .slice A' 2 c'] W fun e w' => e = .returned (.bool true) ∧ Below W.heap.size W w') :=
    Lib.hid (fun W A A' c c' h1 h2 => by have h := sameI_any A A' c c' [0, 12] [0, 12] W (by decide) (by decide) h1 h2; simpa using h)
  have HS3 : Hid (∀ W A A' c c', RdI W W.heap.size .i64 A [0, 1, 13] → RdI W W.heap.size .i64 A' [0, 1, 13] → Calls Try.prog 25 #[.slice A 3 c, .slice A' 3 c'] W fun e w' => e = .returned (.bool true) ∧ Below W.heap.size W w') :=
    Lib.hid (fun W A A' c c' h1 h2 => by have h := sameI_any A A' c c' [0, 1, 13] [0, 1, 13] W (by decide) (by decide) h1 h2; simpa using h)
  have N0 := Lv.start w
  go_enter Try.func15, Try.ntmps15
  go_wp2_with (first
    | (go_at_call 41; refine (HEX.out _).mono ?_; rintro e w1 ⟨rfl, hw1⟩; rw [hw1]; clear hw1 w1)
    | (go_at_call 28; with_reducible refine (HA0.out _ N0).mono ?_; rintro e w2 ⟨A2, c2, rfl, hr2, hB2⟩; have N2 := N0.call hB2; clear hB2)
    | (go_at_call 28; with_reducible refine (HA1.out _ N2).mono ?_; rintro e w3 ⟨A3, c3, rfl, hr3, hB3⟩; have N3 := N2.call hB3; have hr2' := (hr2.below hB3).more hB3.size; clear hB3)
    | (go_at_call 18; with_reducible refine (HAT.out _ N3).mono ?_; rintro e w4 ⟨rfl, hB4⟩; have N4 := N3.call hB4; have hr2'' := (hr2'.below hB4).more hB4.size; have hr3' := (hr3.below hB4).more hB4.size; clear hB4))
  have N5 : Lw w w4.heap.size A2 A3 (w4.alloc (.cells #[.int .i64 1, .int .i64 1, .int .i64 1, .int .i64 25, .int .i64 40, .int .i64 20] 31)).drew := Lw.call ⟨N4.alloc _, heap_top w4 _, (hr2''.below (bel1 w4 _)).more (bel1 w4 _).size, (hr3'.below (bel1 w4 _)).more (bel1 w4 _).size⟩ (below_drew _)
  have HN0 := Lib.hid N0
  clear hr2 hr2' hr2'' hr3 hr3' N2 N3 N4
  generalize hb4 : w4.heap.size = b4 at *
  go_region_held3 (fun W => W.cell? ⟨w.heap.size, 12, none⟩ = some (.int .i64 1) ∧ W.cell? ⟨w.heap.size, 13, none⟩ = some (.int .i64 1) ∧ W.cell? ⟨w.heap.size, 14, none⟩ = some (.int .i64 1) ∧ W.cell? ⟨w.heap.size, 15, none⟩ = some (.int .i64 25) ∧ W.cell? ⟨w.heap.size, 16, none⟩ = some (.int .i64 40) ∧ W.cell? ⟨w.heap.size, 17, none⟩ = some (.int .i64 20) ∧ W.cell? ⟨b4, 0, none⟩ = some (.int .i64 1) ∧ W.cell? ⟨b4, 1, none⟩ = some (.int .i64 1) ∧ W.cell? ⟨b4, 2, none⟩ = some (.int .i64 1) ∧ W.cell? ⟨b4, 3, none⟩ = some (.int .i64 25) ∧ W.cell? ⟨b4, 4, none⟩ = some (.int .i64 40) ∧ W.cell? ⟨b4, 5, none⟩ = some (.int .i64 20)) (with_reducible (first | exact N5.s | exact N6.s | exact N6a.s | exact N7.s | exact N7a.s | exact N8.s | exact N9.s))
    ((first
      | (go_at_call 13; with_reducible refine (HCK.out _ N5.lv).mono ?_; rintro e w6 ⟨rfl, hB6⟩; have N6 := N5.call hB6; have N6a := N6.alloc (.cells #[.int .i64 0, .int .i64 12] 3); have P6 := RdI_lit w6 .i64 3 #[.int .i64 0, .int .i64 12] [0, 12] rfl)
      | (go_at_call 25; with_reducible refine (HS2.out _ _ _ _ _ N6a.r2 P6).mono ?_; rintro e w7 ⟨rfl, hB7⟩; have N7 := N6a.call hB7; have N7a := N7.alloc (.cells #[.int .i64 0, .int .i64 1, .int .i64 13] 3); have P7 := RdI_lit w7 .i64 3 #[.int .i64 0, .int .i64 1, .int .i64 13] [0, 1, 13] rfl)
      | (go_at_call 25; with_reducible refine (HS3.out _ _ _ _ _ N7a.r3 P7).mono ?_; rintro e w8 ⟨rfl, hB8⟩; have N8 := N7a.call hB8)
      | (go_at_call 22; with_reducible refine (HTI.out _ N8.lv).mono ?_; rintro e w9 ⟨rfl, hB9⟩; have N9 := N8.call hB9)))
  all_goals go_wp2_with fail
  all_goals go_ret
  all_goals exact ⟨rfl, N9.lv.bel⟩
end Q
end Go.Proofs.Ytojflmejkigdiaa
