/-
  Contract of the specification of layer 6: Clone.
-/
import Derived.Test.YtehpbjkacdmlaaaDoorMRef2
namespace Go.Proofs.YtehpbjkacdmlaaaDoor
open Go.RowKit
namespace M
open H
set_option linter.unusedVariables false
set_option maxRecDepth 100000
theorem own_empty {w : World} {e : TypeId} : (w.alloc (.cells #[] e)).ownsRow 0 e 1 (.slice (some ⟨w.heap.size, 0, none⟩) 0 0) 0 [] :=
  ⟨rfl, .inr ⟨w.heap.size, 0, #[], rfl, Nat.zero_le _, heap_alloc_new w _, Nat.le_refl _, Nat.zero_le _, rfl, rfl⟩⟩
theorem news_code {w : World} {b g c : Nat} {m : Mem} (h : RM w b (.slice (some ⟨g, 0, none⟩) m.code.length c) m) : ∀ j u, (codeC m)[j]? = some u → w.cell? ((⟨g, 0, none⟩ : Addr).add j) = some u := fun j u hu => by
  have hj : j < m.code.length := by rw [← codeC_len]; exact (List.getElem?_eq_some_iff.1 hu).1
  have : (⟨g, 0, none⟩ : Addr).add j = ⟨g, j, none⟩ := by unfold Addr.add; split <;> simp_all
  rw [this, h.code hj, ← codeC_at m hj, hu]
/-- What Clone leaves. -/
def ClonePost (R : World → Nat → Value → Mem → Prop) (m : Mem) (w : World) (r : Ending) (w' : World) : Prop :=
  ∃ b v, r = .returned (.pointer (some ⟨b, 0, none⟩)) ∧ Made R w w' b v m
theorem own_alloc {w : World} {base n : Nat} {e : TypeId} {v : Value} {xs : List Value} (h : w.ownsRow base e 1 v n xs) (o : Obj) : (w.alloc o).ownsRow base e 1 v n xs :=
  own_as h fun k hk => ((Below.refl w.heap.size w).alloc (Nat.le_refl _) o).block k (h.lt k hk).2
theorem clone_made {T e : TypeId} {w w9 : World} {m : Mem} {g9 cap : Nat} {o : Obj} (hT : e ≠ T) (ho : o = .cells #[] e) (hown : w9.ownsRow 0 e 1 (.slice (some ⟨g9, 0, none⟩) (0 + m.code.length) cap) (0 + m.code.length) ([] ++ codeC m))
    (hgrow : (w.alloc o).drew.grownBy w9 (Value.slice (some ⟨w.heap.size, 0, none⟩) 0 0).ownBlock) (hat : (Value.slice (some ⟨w.heap.size, 0, none⟩) 0 0).ownBlock = some g9 ∨ g9 = (w.alloc o).drew.heap.size) (hlt : g9 < w9.heap.size) :
    Made (fun w b v m => Obj1 T e w b (rcs v m) v (codeC m)) w (w9.alloc (.cells (rcs (.slice (some ⟨g9, 0, none⟩) m.code.length cap) m) T)) w9.heap.size (.slice (some ⟨g9, 0, none⟩) m.code.length cap) m := by
  rw [Nat.zero_add] at hown
  have hg : w.heap.size ≤ g9 := by
    rcases hat with h | h
    · have : w.heap.size = g9 := by simpa [Value.ownBlock] using h
      omega
    · rw [h]; show _ ≤ (w.alloc o).heap.size; simp
  have h1 : Below w.heap.size w (w.alloc o).drew := ((Below.refl w.heap.size w).alloc (Nat.le_refl _) o).drew
  have h2 : Save (fun j => (Value.slice (some ⟨w.heap.size, 0, none⟩) 0 0).ownBlock = some j) (w.alloc o).drew w9 := ⟨hgrow.os, hgrow.tape, hgrow.output, hgrow.size, fun j hj hf => hgrow.block j hj fun e => hf e.symm⟩
  have h3 : Below w.heap.size w w9 := h1.trans (h2.below h1.size fun k hk => by
    have : w.heap.size = k := by simpa [Value.ownBlock] using hk
    omega)
  refine ⟨⟨heap_alloc_new _ _, ?_⟩, fun k hk => ?_, h3.alloc h3.size _⟩
  · rw [codeC_len]
    exact own_alloc hown _
  · rcases hk with rfl | hk
    · exact h3.size
    · have : g9 = k := by simpa [Value.ownBlock] using hk
      omega
set_option maxHeartbeats 4000000 in
theorem rclone_any {w : World} {b : Nat} {v : Value} {m : Mem} (h : RM w b v m) (hm : m.ok) :
    Calls Tryd.prog 27 #[.pointer (some ⟨b, 0, none⟩)] w (ClonePost RM m w) := by
  obtain ⟨g, c, rfl, hc1, hc2, hgb⟩ := h.shape hm
  obtain ⟨i0, hi, hz0, hz1, hz2⟩ := info_parts infoW
  have c0 := blk_cell h.blk 0
  have c1 := blk_cell h.blk 1
  have c2 := blk_cell h.blk 2
  have c3 := blk_cell h.blk 3
  have c4 := blk_cell h.blk 4
  simp only [rcs, List.getElem?_toArray, List.getElem?_cons_succ, List.getElem?_cons_zero] at c0 c1 c2 c3 c4
  have hlt := blk_lt h.blk
  have hmost := hm.most
  have hpos := hm.pos
  have hglt : g < w.heap.size := Obj1.lt h g (.inr rfl)
  have hnews : ∀ j u, (codeC m)[j]? = some u → (w.alloc (.cells #[] 51)).drew.cell? ((⟨g, 0, none⟩ : Addr).add j) = some u := fun j u hu => by
    rw [(((Below.refl w.heap.size w).alloc (Nat.le_refl _) _).drew.cell (p := (⟨g, 0, none⟩ : Addr).add j) (by rw [H.add_block]; exact hglt))]
    exact news_code h j u hu
  have HN := Lib.hid hnews
  have HH := Lib.hid h
  have HLN := Lib.hid (codeC_len m)
  clear h hm hnews
  go_enter Tryd.func27, Tryd.ntmps27
  go_wp2_with fail
  go_region_held3 (fun w' => w'.cell? ⟨b, 0, none⟩ = some (.slice (some ⟨g, 0, none⟩) m.code.length c) ∧ w'.cell? ⟨b, 1, none⟩ = some (.int .i64 (m.next : Nat)) ∧ w'.cell? ⟨b, 2, none⟩ = some (.int .i64 (m.count : Nat)) ∧ w'.cell? ⟨b, 3, none⟩ = some (.int .i64 (m.left : Nat)) ∧ w'.cell? ⟨b, 4, none⟩ = some (.bool m.off))
    (first
      | go_keep
      | (go_split_ands
         refine ⟨?_, ?_, ?_, ?_, ?_⟩
         all_goals (rw [hgrow.cell_far _ (by simp; omega) (by intro e; have hbw : b = w.heap.size := (by simpa [Value.ownBlock] using e); omega)]; assumption)))
    ((refine step_append_lies _ (by rfl) _ _ _ (by rfl) 0 51 i0 _ 1 8 Tryd.underlying70 hi hz0 hz1 hz2 rfl (by decide) (.slice (some ⟨w.heap.size, 0, none⟩) 0 0) 0 [] (by rfl) (by exact own_empty) ⟨g, 0, none⟩ m.code.length c (codeC m) (by rfl) (by rw [HLN.out]; omega) (by exact HN.out) (by unfold codeC; simp [Value.oneCell']) (by omega) (by unfold maxLen; omega) (by omega) (Nat.zero_le _) _ (by rfl) ?_; intro g9 cap w9 hown' hgrow hat hlt9))
  have hfin := clone_made (T := 74) (e := 51) (w := w) (m := m) (by decide) rfl hown' hgrow hat hlt9
  have HF := Lib.hid hfin
  clear hown' hgrow hat hfin
  go_wp2_with fail
  go_ret
  exact ⟨_, _, rfl, HF.out⟩
end M
end Go.Proofs.YtehpbjkacdmlaaaDoor
