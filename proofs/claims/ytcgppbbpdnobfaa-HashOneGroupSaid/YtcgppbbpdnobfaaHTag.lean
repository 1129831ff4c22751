/-
  Bytes and Tag: the sum of the words of a byte slice and its length, behind a key.
-/
import Derived.Test.YtcgppbbpdnobfaaHApp
namespace Go.Proofs.Ytcgppbbpdnobfaa
open Go.RowKit Go.Shelf
namespace H

theorem own_RdI {w : World} {base n c : Nat} {e : TypeId} {k : IntKind} {A : Option Addr} {zs : List Int} (h : w.ownsRow base e 1 (.slice A n c) n (zs.map (Value.int k))) : RdI w w.heap.size k A zs := by
  intro j hj
  rcases h.2 with ⟨hv, hn⟩ | ⟨g, cap, cur, hv, hb, hg, _⟩
  · have := h.1
    simp at this
    omega
  · injection hv with hA
    subst hA
    have hlt := (Array.getElem?_eq_some_iff.1 hg).1
    exact ⟨_, rfl, hlt, (h.cells rfl) j _ (by simp [hj])⟩

theorem ofInt_wrap64 (x : Int) : BitVec.ofInt 64 (wrap64 x) = BitVec.ofInt 64 x := by
  rw [ofInt_inj]
  unfold wrap64
  omega

theorem vals_eq (xs : List Int) (pre : List Int) (n : Int) : vals xs pre ++ [.int .i64 n] = (xs ++ pre.map wrap64 ++ [n]).map (Value.int .i64) := by simp [vals]

def tagB : ByteArray := { data := #[116, 97, 103] }
/-- The hash of a label and bytes; the tag of bytes under a key. -/
def bytesI (lab bs : List Int) : Int := sumI lab (words bs ++ [(bs.length : Int)])
def tagI (key : Int) (bs : List Int) : Int := sumI (bytesOf tagB) ([key] ++ words bs ++ [(bs.length : Int)])

theorem bytesI_eq (lab bs : List Int) (n : Nat) (h : bs.length = n) : sumI lab ([] ++ (words bs).map wrap64 ++ [(n : Int)]) = bytesI lab bs := by
  unfold bytesI
  rw [h]
  apply sumI_congr
  simp [ofInt_wrap64]
theorem tagI_eq (key : Int) (bs : List Int) (n : Nat) (h : bs.length = n) : sumI (bytesOf tagB) ([wrap64 key] ++ (words bs).map wrap64 ++ [(n : Int)]) = tagI key bs := by
  unfold tagI
  rw [h]
  apply sumI_congr
  simp [ofInt_wrap64]

set_option maxHeartbeats 1000000 in
theorem bytes_any (s : ByteArray) (A : Option Addr) (len cap : Nat) (bs : List Int) (w : World) (hs : s.size ≤ 140737488351232) (hb : Byt bs) (hl : bs.length = len) (hlen : len ≤ 140737488351232) (hr : RdI w w.heap.size .u8 A bs) :
    Calls Try.prog 14 #[.string s, .slice A len cap] w fun e w' => e = .returned (.int .u64 (bytesI (bytesOf s) bs)) ∧ Below w.heap.size w w' := by
  have h1 := app_any w.heap.size none 0 0 [] A len cap bs w (Nat.le_refl _) (World.ownsRow_nil _ _ _ _) hb hl hlen (by simp) hr
  have hnw : nw len * 8 ≤ len + 7 := by unfold nw; omega
  have HL := Lib.hid hl
  have HR := Lib.hid hr
  have HB := Lib.hid hb
  clear hl hr hb
  go_enter Try.func14, Try.ntmps14
  go_wp2_with (go_at_call 28; refine h1.mono ?_; clear h1; rintro e w1 ⟨v, rfl, hown, hb1⟩)
  obtain ⟨g, c, rfl⟩ := ownsRow_succ hown
  have hlw : (words bs).length = nw len := by rw [words_length, HL.out]
  rw [vals_eq] at hown
  have h2 := sum_any s (some ⟨g, 0, none⟩) (([] : List Int).length + nw len + 1) c ([] ++ (words bs).map wrap64 ++ [(len : Int)]) w1 hs (by simp [hlw]) (by simp; omega) (own_RdI hown)
  rw [bytesI_eq _ _ _ HL.out] at h2
  refine h2.mono ?_
  clear h2
  rintro e w2 ⟨rfl, hb2⟩
  go_wp2
  go_ret
  exact ⟨rfl, hb1.trans (hb2.mono hb1.size)⟩

set_option maxHeartbeats 1000000 in
theorem tag_any (key : Int) (A : Option Addr) (len cap : Nat) (bs : List Int) (w : World) (hb : Byt bs) (hl : bs.length = len) (hlen : len ≤ 140737488351232) (hr : RdI w w.heap.size .u8 A bs) :
    Calls Try.prog 16 #[.int .u64 key, .slice A len cap] w fun e w' => e = .returned (.int .u64 (tagI key bs)) ∧ Below w.heap.size w w' := by
  have hB0 : Below w.heap.size w (w.alloc (.cells #[.int .i64 (wrap64 key)] 3)) := (Below.refl _ w).alloc (Nat.le_refl _) _
  have h1 := app_any w.heap.size (some ⟨w.heap.size, 0, none⟩) 1 1 [wrap64 key] A len cap bs (w.alloc (.cells #[.int .i64 (wrap64 key)] 3)) (by simp) (World.ownsRow_lit w #[.int .i64 (wrap64 key)] 1 (Nat.le_refl _) (by unfold maxLen; omega) (by simp)) hb hl hlen (by simp) (hr.below hB0)
  have hnw : nw len * 8 ≤ len + 7 := by unfold nw; omega
  have HL := Lib.hid hl
  have HR := Lib.hid hr
  have HB := Lib.hid hb
  clear hl hr hb
  go_enter Try.func16, Try.ntmps16
  go_wp2_with (go_at_call 28; refine h1.mono ?_; clear h1; rintro e w1 ⟨v, rfl, hown, hb1⟩)
  obtain ⟨g, c, rfl⟩ := ownsRow_succ hown
  have hlw : (words bs).length = nw len := by rw [words_length, HL.out]
  rw [vals_eq] at hown
  have h2 := sum_any tagB (some ⟨g, 0, none⟩) ([wrap64 key].length + nw len + 1) c ([wrap64 key] ++ (words bs).map wrap64 ++ [(len : Int)]) w1 (by decide) (by simp [hlw]; omega) (by simp; omega) (own_RdI hown)
  rw [tagI_eq _ _ _ HL.out] at h2
  refine h2.mono ?_
  clear h2
  rintro e w2 ⟨rfl, hb2⟩
  have hb3 := hB0.trans hb1
  go_wp2
  go_ret
  exact ⟨rfl, hb3.trans (hb2.mono hb3.size)⟩

end H
end Go.Proofs.Ytcgppbbpdnobfaa
