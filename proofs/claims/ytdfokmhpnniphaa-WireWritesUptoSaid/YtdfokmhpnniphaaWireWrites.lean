/-
  For every list of items that holds at most 1048576 values, WireWrites returns true: a Writer collects exactly the specified encodings, one after the other.
-/
import Derived.Test.YtdfokmhpnniphaaWLives
import Derived.Test.YtdfokmhpnniphaaWWritten
namespace Go.Proofs.Ytdfokmhpnniphaa.wireWrites
open Go.ChangeShapes Go.WideShapes Go.ChangeAt Go.RowKit
open Go.ChangeMaps (open_string shut_string)
set_option linter.unusedVariables false

set_option maxRecDepth 100000 in
set_option maxHeartbeats 1000000 in
theorem walk (a0 : Option Addr) (n0 c0 : Nat) (z0 : List W.Itm) (w : World) (l0 : z0.length = n0) (cp0 : n0 ≤ c0 ∧ c0 ≤ maxLen) (nz0 : a0 = none → c0 = 0) (rd0 : W.RdIt w w.heap.size a0 z0) (wf0 : ∀ x ∈ z0, x.Ok) (bk0 : (z0.map Go.Proofs.Ytdfokmhpnniphaa.W.Itm.w).sum ≤ 1048576) :
    Calls Try.prog 3 #[.slice a0 n0 c0] w fun e w' => e = .returned (.bool true) ∧ Below w.heap.size w w' := by
  obtain ⟨hok, htot, hlen⟩ := W.its_small wf0 bk0
  have h1 := W.written_any a0 n0 c0 z0 w l0 (by omega) rd0 (fun x hx => ⟨(hok x hx).1, by have := (hok x hx).2.1; omega, (hok x hx).2.2⟩) (by omega) (fun x hx => by have := (hok x hx).2.1; omega)
  have h2 : ∀ W1 : World, Below w.heap.size w W1 → Calls Try.prog 15 #[.slice a0 n0 c0] W1 fun e w' => ∃ v, e = .returned v ∧ W.OwnB W1 w' (W.encAll (z0.map W.Itm.val)) v := fun W1 hB =>
    W.encoded_any a0 n0 c0 z0 W1 l0 (by omega) (fun j x hx => by
      obtain ⟨ad, e, ha, hr⟩ := (rd0.below hB) j x hx
      exact ⟨ad, e, by have := hB.size; omega, ⟨hr.c0, hr.c1, hr.c2, hr.c3, hr.c4, hr.c5, hr.rb.more hB.size, hr.rl.more hB.size⟩⟩) (fun x hx => ⟨(hok x hx).1, by have := (hok x hx).2.1; omega, (hok x hx).2.2⟩) (by omega)
  have H2 := Lib.hid h2
  clear h2 hok rd0 wf0 bk0 nz0 cp0 l0 hlen
  generalize W.encAll (z0.map W.Itm.val) = bs at h1 H2 htot
  go_enter Try.func3, Try.ntmps3
  go_wp2_with fail
  refine h1.mono ?_
  clear h1
  rintro r w1 ⟨v1, rfl, ho1, hB1⟩
  obtain ⟨A1, c1, rfl⟩ := H.own_shape ho1
  have h2 := H2.out w1 hB1
  have HO1 := Lib.hid ho1
  clear ho1 H2
  go_wp2_with fail
  refine h2.mono ?_
  clear h2
  rintro r w2 ⟨v2, rfl, ho2, hB2⟩
  obtain ⟨A2, c2, rfl⟩ := H.own_shape ho2
  have h3 := W.sameB_any A1 A2 bs.length bs.length c1 c2 bs bs w2 rfl rfl (by omega) (((H.own_RdI HO1.out).below hB2).more hB2.size) (H.own_RdI ho2)
  rw [decide_eq_true rfl] at h3
  have HB2 := Lib.hid (hB1.trans (hB2.mono hB1.size))
  clear ho2 HO1 hB1 hB2
  go_wp2_with fail
  refine h3.mono ?_
  clear h3
  rintro r w3 ⟨rfl, hB3⟩
  have hlv := W.lives_any w3
  have HB3 := Lib.hid (HB2.out.trans (hB3.mono HB2.out.size))
  clear hB3
  go_wp2_with fail
  refine hlv.mono ?_
  rintro r w4 ⟨rfl, hB4⟩
  have HB4 := Lib.hid (HB3.out.trans (hB4.mono HB3.out.size))
  clear hB4 hlv
  go_wp2_with fail
  go_ret
  exact ⟨rfl, HB4.out⟩

set_option maxRecDepth 100000 in
theorem lifted (os : Os) (started : os.Started) (H0 : Type) (enc : TypeId × Value → H0) (F0 : Stop.Interp) :
    ReturnsInHanded {} Try.checked os 3 .any ((Rows.OpenSpec.upto Rows.wireWritesSpec).pre6 enc Try.prog Try.f3 Rows.wireWritesUptoRow.domain false) (((Rows.OpenSpec.upto Rows.wireWritesSpec).at F0).post enc Try.prog Try.f3 false true false false) := by
  refine returnsInHanded_of_cond_sized (C := Try.checked) (s := (Rows.OpenSpec.upto Rows.wireWritesSpec)) (k := Rows.uptoSmall) rfl W.own started (by kernel_rfl) Try.func3
    (OpenSpec.witness (enc := enc) (C := Try.checked) (s := (Rows.OpenSpec.upto Rows.wireWritesSpec)) (k := Rows.uptoSmall) rfl false ⟨#[], #[.slice none 0 0], []⟩ 8 (by kernel_rfl) (by kernel_rfl) (by kernel_rfl)
      (x := ([.nil], [], [])) (by kernel_rfl) (by kernel_rfl) (by kernel_rfl)) ?_
  intro W base args ds gs before hval0 hW hcnd hk0 hsz0 _
  have hval : ∀ (j : Nat) t v, Try.f3.params[j]? = some t → args[j]? = some v → Value.okWide Try.prog W .any base t v := hval0
  have hW' := hW
  obtain ⟨p, q, hA0, hV, rfl, hfz, hnd⟩ := hW
  have hA : DataW.TrodAll enc Try.prog W 0 (fun _ => true) true Try.f3.params.toList args.toList ds p := hA0
  rw [Try.params3] at hA hval
  obtain ⟨v0, vs0, d0, ds0, p0, q0, hargs, rfl, rfl, h0, r0⟩ := trodAll_cons hA
  obtain ⟨rfl, rfl, rfl⟩ := trodAll_nil r0
  obtain rfl : args = #[v0] := by cases args; simp_all
  obtain ⟨rfl, rfl⟩ := trodVars_none hV
  obtain ⟨a0, n0, c0, rfl⟩ := okWide_slice Try.underlying22 (hval 0 22 v0 rfl rfl)
  have k0 := h0
  have lt0 : ∀ x ∈ p0, x.block < W.heap.size := by obtain ⟨m, hm⟩ := k0; exact DataW.trod_lt m _ _ _ hm
  obtain ⟨z0, l0, cp0, cq0, nz0, rd0, wf0, bj0⟩ := Go.Proofs.Ytdfokmhpnniphaa.W.open_its h0
  clear hA0 hval0
  have hk := of_decide_eq_true hk0
  simp only [List.append_nil, Rows.uptoBulkAll] at hk
  have bk0 : (z0.map Go.Proofs.Ytdfokmhpnniphaa.W.Itm.w).sum ≤ 1048576 := by omega
  refine (walk a0 n0 c0 z0 W l0 ⟨cp0, cq0⟩ nz0 rd0 wf0 bk0).mono fun e W' ⟨he, bel⟩ => ?_
  subst he
  exact ⟨_, rfl, _, _, _, [], _, [], hW', trodAll_mk1 (shut_bool Try.underlying4 _), (trodAll_cons_mk (Below.trod Go.Proofs.Ytdfokmhpnniphaa.W.laidOut (by kernel_rfl) (of_decide_eq_true (by kernel_rfl)) k0 bel lt0) trodAll_mk0), rfl, bel.frame _, fun h => by cases h⟩

/-- ████ THE STATEMENT ████ -/
theorem proved : Rows.WireWritesUptoSaid :=
  OpenClaim.holds_of_cond 3 Try.f3 rfl rfl rfl rfl rfl rfl rfl ⟨rfl, rfl, rfl, rfl, rfl⟩ rfl rfl rfl rfl rfl (by kernel_rfl) Try.func3 (by kernel_rfl)
    (of_decide_eq_true (by kernel_rfl)) (by unfold Func.isWrapper; first | (rw [if_pos (by decide +kernel)]; kernel_rfl) | (rw [if_neg (by decide +kernel)]; exact ⟨rfl, rfl⟩))
    (fun os started H0 enc _ F0 => by rw [OpenClaim.pre_of_none' rfl]; exact lifted os started H0 enc F0)
end Go.Proofs.Ytdfokmhpnniphaa.wireWrites
