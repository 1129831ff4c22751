/-
  The program's Writer: Uint, Int, Bytes, Ints, Done.
-/
import Derived.Test.YtlmbpbhdbgadjaaVRK
import Derived.Lib.Zigzag
import Derived.Test.YtlmbpbhdbgadjaaOwn
namespace Go.Proofs.Ytlmbpbhdbgadjaa
open Go.RowKit
namespace W
open H
set_option linter.unusedVariables false
theorem own_cap {w : World} {base n : Nat} {e : TypeId} {A : Option Addr} {c m : Nat} {xs : List Value} (h : w.ownsRow base e 1 (.slice A m c) n xs) : m = n ∧ n ≤ c ∧ c ≤ maxLen ∧ (A = none → c = 0) ∧ (∀ a, A = some a → base ≤ a.block ∧ a.block < w.heap.size) := by
  rcases h.2 with ⟨hv, hz⟩ | ⟨g, cap, cur, hv, hg, hh, h1, h2, _⟩
  · injection hv with e1 e2 e3; subst e1 e2 e3 hz; exact ⟨rfl, Nat.le_refl _, by decide, fun _ => rfl, fun a ha => by cases ha⟩
  · injection hv with e1 e2 e3; subst e1 e2 e3; exact ⟨rfl, h1, h2, (fun h => by cases h), fun a ha => by injection ha with ha; subst ha; exact ⟨hg, blk_lt hh⟩⟩


theorem Save.rdi2 {F : Nat → Prop} {w w' : World} {B : Nat} {k : IntKind} {A : Option Addr} {zs : List Int} (hs : Save F w w') (h : RdI w B k A zs) (hB : B ≤ w.heap.size) (hG : ∀ a, A = some a → 0 < zs.length → ¬ F a.block) : RdI w' B k A zs := fun j hj => by
  obtain ⟨ad, e, hb, hc⟩ := h j hj
  exact ⟨ad, e, hb, (World.cell?_of_block (w := w) (hs.block _ (by rw [add_block]; omega) (by rw [add_block]; exact hG ad e (by omega)))).trans hc⟩
theorem RdI.lt0 {w : World} {B : Nat} {k : IntKind} {A : Option Addr} {zs : List Int} (h : RdI w B k A zs) : ∀ a, A = some a → 0 < zs.length → a.block < B := fun a ha hl => by
  obtain ⟨ad, e, hb, _⟩ := h 0 hl
  rw [ha] at e
  injection e with e
  rw [e]
  exact hb

/-- At block b there is a Writer that has collected bs, in the slice v. -/
structure WAt (w : World) (b : Nat) (v : Value) (bs : List Int) : Prop where
  blk : w.heap[b]? = some (.cells #[v] 59 (0, 0))
  own : w.ownsRow 0 5 1 v bs.length (bs.map (Value.int .u8))

/-- The blocks of a Writer. -/
def WF (b : Nat) (v : Value) (k : Nat) : Prop := k = b ∨ v.ownBlock = some k
/-- What one step of a Writer changes. -/
structure WStep (w w' : World) (b : Nat) (v v' : Value) : Prop where
  save : Save (WF b v) w w'
  place : ∀ k, v'.ownBlock = some k → v.ownBlock = some k ∨ w.heap.size ≤ k
theorem WStep.refl (w : World) (b : Nat) (v : Value) : WStep w w b v v := ⟨Save.refl _ _, fun _ h => .inl h⟩
theorem WStep.trans {w1 w2 w3 : World} {b : Nat} {v1 v2 v3 : Value} (h : WStep w1 w2 b v1 v2) (h' : WStep w2 w3 b v2 v3) : WStep w1 w3 b v1 v3 :=
  ⟨h.save.trim h'.save fun j hj => by
    rcases hj with rfl | hj
    · exact .inl (.inl rfl)
    · rcases h.place j hj with h2 | h2
      · exact .inl (.inr h2)
      · exact .inr h2, fun k hk => by
    rcases h'.place k hk with h2 | h2
    · exact h.place k h2
    · exact .inr (Nat.le_trans h.save.size h2)⟩
theorem WStep.pre {w w0 w1 : World} {b : Nat} {v v' : Value} (h : WStep w0 w1 b v v') (hb : Below w.heap.size w w0) : WStep w w1 b v v' :=
  ⟨(Save.of_below _ hb).trans h.save, fun k hk => (h.place k hk).imp id fun h2 => Nat.le_trans hb.size h2⟩
theorem WStep.below {w w' : World} {b B : Nat} {v v' : Value} (h : WStep w w' b v v') (hB : B ≤ w.heap.size) (hb : B ≤ b) (hv : ∀ k, v.ownBlock = some k → B ≤ k) : Below B w w' :=
  h.save.below hB fun k hk => hk.elim (fun e => e ▸ hb) (hv k)

theorem own_off {w : World} {base n b : Nat} {e T : TypeId} {v : Value} {xs : List Value} {cs : Array Value} (h : w.ownsRow base e 1 v n xs) (hb : w.heap[b]? = some (.cells cs T (0, 0))) (hne : e ≠ T) : v.ownBlock ≠ some b := by
  rcases h.2 with ⟨rfl, _⟩ | ⟨g, cap, cur, rfl, _, hh, _⟩
  · simp [Value.ownBlock]
  · intro e'
    obtain rfl : g = b := by simpa [Value.ownBlock] using e'
    rw [hb] at hh
    injection hh with hh
    injection hh with _ ht
    exact hne ht.symm
theorem own_setoff {w : World} {base n b i : Nat} {e : TypeId} {v u : Value} {xs : List Value} (h : w.ownsRow base e 1 v n xs) (hb : v.ownBlock ≠ some b) : (w.setCell ⟨b, i, none⟩ u).ownsRow base e 1 v n xs := by
  refine ⟨h.1, ?_⟩
  rcases h.2 with h2 | ⟨g, cap, cur, rfl, hg, hh, hr⟩
  · exact .inl h2
  · refine .inr ⟨g, cap, cur, rfl, hg, ?_, hr⟩
    rw [Below.heap_setCell _ _ _ _ (fun e => hb (by rw [e]; rfl))]
    exact hh
theorem WAt.put {w w1 : World} {b : Nat} {v v' : Value} {bs bs' : List Int} (h : WAt w b v bs) (hg : w.grownBy w1 v.ownBlock) (ho : w1.ownsRow 0 5 1 v' bs'.length (bs'.map (Value.int .u8))) (hp : v'.ownBlock = v.ownBlock ∨ v'.ownBlock = some w.heap.size) : WAt (w1.setCell ⟨b, 0, none⟩ v') b v' bs' ∧ WStep w (w1.setCell ⟨b, 0, none⟩ v') b v v' := by
  have h1 : w1.heap[b]? = some (.cells #[v] 59 (0, 0)) := (hg.block b (blk_lt h.blk) fun e => own_off h.own h.blk (by decide) e.symm).trans h.blk
  refine ⟨⟨blk_set h1 0 v', own_setoff ho (own_off ho h1 (by decide))⟩, ⟨?_, fun k hk => ?_⟩⟩
  · have hs : Save (WF b v) w w1 := ⟨hg.os, hg.tape, hg.output, hg.size, fun k hk hf => hg.block k hk fun e => hf (.inr e.symm)⟩
    exact hs.setCell (p := ⟨b, 0, none⟩) (.inl rfl) _
  · rcases hp with e | e
    · exact .inl (by rw [← e]; exact hk)
    · rw [e] at hk
      injection hk with hk
      exact .inr (by omega)
theorem WAt.keep {w w1 : World} {b : Nat} {v : Value} {bs : List Int} (h : WAt w b v bs) (hb : Below w.heap.size w w1) : WAt w1 b v bs :=
  ⟨(hb.block b (blk_lt h.blk)).trans h.blk, own_kept_below h.own hb⟩
theorem WAt.vlt {w : World} {b : Nat} {v : Value} {bs : List Int} (h : WAt w b v bs) : ∀ k, v.ownBlock = some k → k < w.heap.size := fun k hk => (h.own.lt k hk).2

/-- What a call of a Writer leaves: it has collected bs. -/
def WrPost (w : World) (b : Nat) (v : Value) (bs : List Int) (r : Ending) (w' : World) : Prop := r = .returned (.tuple #[]) ∧ ∃ v', WAt w' b v' bs ∧ WStep w w' b v v'

set_option maxHeartbeats 1000000 in
theorem add_any {w : World} {b : Nat} {v : Value} {bs : List Int} (A : Option Addr) (n c : Nat) (more : List Int) (h : WAt w b v bs) (hl : more.length = n) (hn : bs.length + n ≤ 140737488355328) (hnil : A = none → c = 0) (hr : RdI w w.heap.size .u8 A more) :
    Calls Try.prog 62 #[.pointer (some ⟨b, 0, none⟩), .slice A n c] w (WrPost w b v (bs ++ more)) := by
  obtain ⟨i0, hi, hz0, hz1, hz2⟩ := info_parts infoB
  obtain ⟨A0, q0, rfl⟩ := own_shape h.own
  have c0 := blk_cell h.blk 0
  have f0 := blk_frozen h.blk 0
  simp at c0
  have hown := h.own
  have HH := Lib.hid h
  have HL := Lib.hid hl
  have HR := Lib.hid hr
  clear h hl hr
  rcases A with _ | ad
  · have h0 : more = [] := by
      rcases more with _ | ⟨b, bs⟩
      · rfl
      · obtain ⟨_, e, _⟩ := HR.out 0 (by simp)
        cases e
    subst h0
    obtain rfl : n = 0 := by rw [← HL.out]; rfl
    obtain rfl := hnil rfl
    go_enter Try.func62, Try.ntmps62
    go_wp2_with (at_builtin; go_must (refine wpList_append_own_none rfl _ _ 55 rfl 0 5 i0 1 Try.underlying55 hi _ _ _ rfl hown rfl ?_))
    go_end0
    exact ⟨rfl, .slice A0 bs.length q0, HH.out.put ⟨rfl, rfl, rfl, Nat.le_refl _, fun _ _ _ => rfl⟩ HH.out.own (.inl rfl)⟩
  · have hnews := HR.out.news n
    rw [List.take_of_length_le (by rw [HL.out]; exact Nat.le_refl _)] at hnews
    have hnl : (more.map (Value.int .u8)).length = n * 1 := by rw [List.length_map, HL.out]; omega
    have HN := Lib.hid hnews
    have HNL := Lib.hid hnl
    have HO := Lib.hid hown
    clear hnews hnl hown
    have fin : ∀ (v' : Value) (w2 : World), w2.ownsRow 0 5 1 v' (bs.length + n) (bs.map (Value.int .u8) ++ more.map (Value.int .u8)) → w.grownBy w2 (Value.slice A0 bs.length q0).ownBlock → (v'.ownBlock = (Value.slice A0 bs.length q0).ownBlock ∨ v'.ownBlock = some w.heap.size) → WAt (w2.setCell ⟨b, 0, none⟩ v') b v' (bs ++ more) ∧ WStep w (w2.setCell ⟨b, 0, none⟩ v') b (.slice A0 bs.length q0) v' := fun v' w2 ho hg hp =>
      HH.out.put hg (by rw [List.length_append, List.map_append, HL.out]; exact ho) hp
    have hbb : ∀ w2 : World, w.grownBy w2 (Value.slice A0 bs.length q0).ownBlock → w2.heap[b]? = some (.cells #[.slice A0 bs.length q0] 59 (0, 0)) := fun w2 hg => (hg.block b (blk_lt HH.out.blk) fun e => own_off HH.out.own HH.out.blk (by decide) e.symm).trans HH.out.blk
    have HB := Lib.hid hbb
    have FIN := Lib.hid fin
    clear fin hbb
    go_enter Try.func62, Try.ntmps62
    go_wp2_with (at_builtin; refine wpList_append_place rfl _ _ 55 rfl 0 5 i0 (.int .u8 0) 1 1 Try.underlying55 hi hz0 hz1 hz2 rfl (by decide) _ _ _ rfl HO.out ad n c (more.map (Value.int .u8)) rfl HNL.out HN.out (one_cells _ _) (by unfold maxLen; omega) (by omega) (Nat.zero_le _) ?_; intro v' w2 hown' hgrow hpl; obtain ⟨A', q', rfl⟩ := own_shape hown'; have hh := FIN.out _ _ hown' hgrow hpl; have hb2 := HB.out w2 hgrow; have d0 := blk_cell hb2 0; have e0 := blk_frozen hb2 0; simp at d0; have HF := Lib.hid hh; clear hh hown' hgrow hb2 hpl)
    go_end0
    exact ⟨rfl, _, HF.out⟩

theorem u8_or128 {x : Int} (h0 : 0 ≤ x) (h1 : x < 256) : bits .or .u8 x 128 = x % 128 + 128 := by
  rw [u8_or x 128 h0 h1 (by decide) (by decide)]
  have key : ∀ n : Nat, n < 256 → n ||| 128 = n % 128 + 128 := by decide +kernel
  have := key x.toNat (by omega)
  have e : (128 : Int).toNat = 128 := rfl
  rw [e, this]
  omega

set_option maxRecDepth 100000 in
set_option maxHeartbeats 1000000 in
theorem uint_wr {w : World} {b : Nat} {v0 : Value} {bs : List Int} (n : Nat) (hn : n < 18446744073709551616) (h : WAt w b v0 bs) (hsz : bs.length ≤ 140737488355300) :
    Calls Try.prog 55 #[.pointer (some ⟨b, 0, none⟩), .int .u64 n] w (WrPost w b v0 (bs ++ encU n)) := by
  have HN := Lib.hid hn
  have HH := Lib.hid h
  clear hn h
  go_enter Try.func55, Try.ntmps55
  go_wp2
  go_loopw [1] (fun x wr => ∃ (m : Nat) (pre : List Int) (v : Value), x = .int .u64 m ∧ m < 18446744073709551616 ∧ encU n = pre ++ encU m ∧ WAt wr b v (bs ++ pre) ∧ WStep w wr b v0 v) (fun x _ => (intOf x).toNat)
  case atStart => exact ⟨n, [], v0, rfl, HN.out, rfl, by rw [List.append_nil]; exact HH.out, WStep.refl _ _ _⟩
  case round =>
    obtain ⟨m, pre, v, rfl, hm, hp, hW, hB⟩ := hrel
    have hpl : pre.length < 10 := by
      have h1 := encU_len 9 (n := n) (by have := HN.out; have : (18446744073709551616 : Nat) < 128 ^ (9 + 1) := by decide
                                         omega)
      have h2 := encU_pos m
      rw [hp, List.length_append] at h1
      omega
    have HP := Lib.hid hp
    have HW := Lib.hid hW
    have HM := Lib.hid hm
    clear hp hW hm
    have hlit := fun z : Int => RdI_lit wr .u8 5 #[.int .u8 z] [z] rfl
    have hcall := fun z : Int => add_any (some ⟨wr.heap.size, 0, none⟩) 1 1 [z] (HW.out.keep ((Below.refl _ wr).alloc (Nat.le_refl _) (.cells #[.int .u8 z] 5))) rfl (by simp; omega) (fun h => by cases h) (hlit z)
    have HC := Lib.hid hcall
    clear hcall hlit hsz hpl
    by_cases hlt : m < 128
    · have hge : ¬ 128 ≤ m := by omega
      go_wp2_with fail
      refine (HC.out (m : Int)).mono ?_
      rintro r w2 ⟨rfl, v2, hW2, hB2⟩
      have HW2 := Lib.hid hW2
      clear hW2
      go_wp2_with fail
      go_end0
      refine ⟨rfl, v2, ?_, hB.trans (hB2.pre ((Below.refl _ wr).alloc (Nat.le_refl _) _))⟩
      rw [HP.out, encU_lt hlt, ← List.append_assoc]
      exact HW2.out
    · have hge : 128 ≤ m := by omega
      have hv : bits .or .u8 ((m : Int) % 256) 128 = ((m % 128 + 128 : Nat) : Int) := by
        rw [u8_or128 (by omega) (by omega)]
        omega
      have HC2 := Lib.hid (HC.out (bits .or .u8 ((m : Int) % 256) 128))
      have HV := Lib.hid hv
      clear hv HC
      go_wp2_with fail
      refine HC2.out.mono ?_
      rintro r w2 ⟨rfl, v2, hW2, hB2⟩
      have HW2 := Lib.hid hW2
      clear hW2 HC2
      go_wp2_with fail
      go_roundw
      case rel =>
        refine ⟨m / 128, pre ++ [((m % 128 + 128 : Nat) : Int)], v2, by go_num, by have := HM.out; omega, ?_, ?_, hB.trans (hB2.pre ((Below.refl _ wr).alloc (Nat.le_refl _) _))⟩
        · rw [HP.out, encU_ge hlt]
          simp
        · have h := HW2.out
          rw [HV.out] at h
          rw [← List.append_assoc]
          exact h
      case measure => simp [intOf]; omega

theorem or_zig_neg {x : Int} (h0 : -9223372036854775808 ≤ x) (hneg : x < 0) :
    bits .xor .u64 IntKind.u64.max (IntKind.u64.wrap (IntKind.u64.wrap x * 2)) = ((zig x : Nat) : Int) := by
  rw [Lib.zigzag_neg h0 hneg]
  unfold Lib.zigzag zig
  rw [if_neg (by omega)]
theorem or_zig_pos {x : Int} (h0 : 0 ≤ x) (h1 : x ≤ 9223372036854775807) : x * 2 = ((zig x : Nat) : Int) := by
  unfold zig
  rw [if_pos h0]
  omega

set_option maxHeartbeats 1000000 in
theorem fold_any (n : Int) (w : World) (hn : -9223372036854775808 ≤ n ∧ n ≤ 9223372036854775807) :
    Calls Try.prog 63 #[.int .i64 n] w fun e w' => e = .returned (.int .u64 (zig n)) ∧ w = w' := by
  obtain ⟨h1, h2⟩ := hn
  by_cases h : n < 0
  · go_enter Try.func63, Try.ntmps63
    go_wp2
    go_ret
    exact ⟨ret_int (or_zig_neg h1 ‹n < 0›), rfl⟩
  · have h0 : 0 ≤ n := by omega
    go_enter Try.func63, Try.ntmps63
    go_wp2
    go_ret
    exact ⟨ret_int (or_zig_pos h0 h2), rfl⟩

set_option maxHeartbeats 1000000 in
theorem int_wr {w : World} {b : Nat} {v : Value} {bs : List Int} (n : Int) (hn : -9223372036854775808 ≤ n ∧ n ≤ 9223372036854775807) (h : WAt w b v bs) (hsz : bs.length ≤ 140737488355300) :
    Calls Try.prog 56 #[.pointer (some ⟨b, 0, none⟩), .int .i64 n] w (WrPost w b v (bs ++ encU (zig n))) := by
  have hf := fold_any n w hn
  have hu := uint_wr (zig n) (zig_lt hn) h hsz
  clear h hn hsz
  generalize bs ++ encU (zig n) = R at hu ⊢
  go_enter Try.func56, Try.ntmps56
  go_wp2_with fail
  refine hf.mono ?_
  rintro r w1 ⟨rfl, rfl⟩
  go_wp2_with fail
  refine hu.mono ?_
  rintro r w2 ⟨rfl, v2, hW, hB⟩
  have HW := Lib.hid hW
  clear hW hu hf
  go_wp2_with fail
  go_end0
  exact ⟨rfl, v2, HW.out, hB⟩

set_option maxHeartbeats 1000000 in
theorem ints_wr {w : World} {b : Nat} {v : Value} {bs : List Int} (A : Option Addr) (n c : Nat) (zs : List Int) (h : WAt w b v bs) (hl : zs.length = n) (hsz : bs.length + 10 * n ≤ 140737488355200) (hz : ∀ z ∈ zs, -9223372036854775808 ≤ z ∧ z ≤ 9223372036854775807) (hr : RdI w w.heap.size .i64 A zs) (hA : ∀ a, A = some a → 0 < zs.length → ¬ WF b v a.block) :
    Calls Try.prog 39 #[.pointer (some ⟨b, 0, none⟩), .slice A n c] w (WrPost w b v (bs ++ (encU n ++ encL zs))) := by
  have hu := uint_wr n (by omega) h (by omega)
  have hlen : (encU n).length ≤ 10 := encU_len 9 (by have : (18446744073709551616 : Nat) < 128 ^ (9 + 1) := by decide
                                                     omega)
  have hn : n ≤ 140737488355200 := by omega
  rw [← List.append_assoc]
  have hadd : ∀ (k : Nat) (z : Int) (W : World) (v : Value), zs[k]? = some z → WAt W b v (bs ++ encU n ++ encL (zs.take k)) → Calls Try.prog 56 #[.pointer (some ⟨b, 0, none⟩), .int .i64 z] W (WrPost W b v (bs ++ encU n ++ encL (zs.take (k + 1)))) := fun k z W v hk hW => by
    have h1 := int_wr z (hz z (List.mem_of_getElem? hk)) hW (by
      have h2 := encL_len (zs.take k) (fun x hx => hz x (List.mem_of_mem_take hx))
      have h3 := List.length_take_le k zs
      rw [List.length_append, List.length_append]
      have : (zs.take k).length ≤ n := by rw [List.length_take, hl]; omega
      omega)
    rw [List.take_add_one, hk]
    show Calls _ _ _ _ (WrPost W b v (bs ++ encU n ++ encL (zs.take k ++ [z])))
    rw [encL_snoc, ← List.append_assoc]
    exact h1
  have HA := Lib.hid hadd
  have HL := Lib.hid hl
  have HR := Lib.hid hr
  have HF := Lib.hid hA
  clear hadd h hl hr hlen hsz hz hA
  generalize bs ++ encU n = S at HA hu ⊢
  go_enter Try.func39, Try.ntmps39
  go_wp2_with fail
  refine hu.mono ?_
  rintro r w1 ⟨rfl, v1, hW, hB1⟩
  have HW1 := Lib.hid hW
  clear hu hW
  go_wp2_with fail
  go_loopw [13] (fun i wr => ∃ (k : Nat) (v' : Value), k ≤ n ∧ i = .int .i64 k ∧ WAt wr b v' (S ++ encL (zs.take k)) ∧ WStep w wr b v v') (fun i _ => n - (intOf i).toNat)
  case atStart => exact ⟨0, v1, Nat.zero_le _, rfl, by rw [List.take_zero]; show WAt w1 b v1 (S ++ []); rw [List.append_nil]; exact HW1.out, hB1⟩
  case round =>
    obtain ⟨k, v', hk, rfl, hW, hB⟩ := hrel
    have HW := Lib.hid hW
    clear hW
    by_cases hlt : k < n
    · have hgz : zs[k]? = some (zs[k]?.getD 0) := by rw [List.getElem?_eq_getElem (by rw [HL.out]; exact hlt)]; rfl
      obtain ⟨ad, rfl, _, hx⟩ := hB.save.rdi2 HR.out (Nat.le_refl _) HF.out k (by rw [HL.out]; exact hlt)
      generalize zs[k]?.getD 0 = z at hgz hx
      have hcall := HA.out k z wr v' hgz HW.out
      clear hgz
      go_wp2_with fail
      refine hcall.mono ?_
      clear hcall
      rintro r w2 ⟨rfl, v2, hW2, hB2⟩
      have HW2 := Lib.hid hW2
      clear hW2
      go_wp2_with fail
      go_roundw
      case rel => exact ⟨k + 1, v2, by omega, by go_num, HW2.out, hB.trans hB2⟩
      case measure => simp [intOf]; omega
    · go_wp2_with fail
      go_end0
      refine ⟨rfl, v', ?_, hB⟩
      have h := HW.out
      rw [List.take_of_length_le (by rw [HL.out]; omega)] at h
      exact h

set_option maxHeartbeats 1000000 in
theorem done_wr {w : World} {b : Nat} {v : Value} {bs : List Int} (h : WAt w b v bs) (hsz : bs.length ≤ 140737488351232) :
    Calls Try.prog 41 #[.pointer (some ⟨b, 0, none⟩)] w fun r w' => ∃ v', r = .returned v' ∧ OwnB w w' bs v' := by
  obtain ⟨A, c, rfl⟩ := own_shape h.own
  obtain ⟨_, h1, h2, h3, h4⟩ := own_cap h.own
  have hcl := clone_any A bs.length c bs w rfl hsz h3 (own_RdI h.own)
  have c0 := blk_cell h.blk 0
  simp at c0
  clear h h1 h2 h3 h4
  go_enter Try.func41, Try.ntmps41
  go_wp2_with fail
  refine hcl.mono ?_
  clear hcl
  rintro r w2 ⟨v2, rfl, hO⟩
  have HO := Lib.hid hO
  clear hO
  go_wp2_with fail
  go_ret
  exact ⟨v2, rfl, HO.out⟩

end W
end Go.Proofs.Ytlmbpbhdbgadjaa
