/-
  What a fixed list of ticks says of its hops.
-/
import Derived.Test.YtojflmejkigdiaaQBef
import Derived.Test.YtojflmejkigdiaaQWay
namespace Go.Proofs.Ytojflmejkigdiaa
open Go.RowKit
namespace Q
open H
set_option linter.unusedVariables false
set_option linter.unusedSimpArgs false
theorem gt_hi {l : List Int} {h : Hp} (ho : Hok h) : ∃ d : Nat, h.dst = d ∧ d < 21 := ⟨h.dst.toNat, by have := ho.dst; omega, by have := ho.dst; omega⟩
theorem src_nat {h : Hp} (ho : Hok h) : ∃ s : Nat, h.src = s ∧ s < 12 := ⟨h.src.toNat, by have := ho.src; omega, by have := ho.src; omega⟩
theorem rx_le {l : List Int} {h : Hp} {size : Int} (hl : l.length = 21) (ho : Hok h) (i : Nat) (hi : i < 21) : gt (rx size l h) (i : Int) ≤ gt l (i : Int) := by
  rw [gt_rx hl ho i hi]
  split <;> omega
theorem pass_ok {H : List Hp} (hH : ∀ h ∈ H, Hok h) {size : Int} (hs : 1 ≤ size) : ∀ {l : List Int}, Aok l → Aok (pass H size l) := by
  induction H with
  | nil => intro l hl; exact hl
  | cons h H ih => intro l hl; exact ih (fun x hx => hH x (by simp [hx])) (rx_ok hl (hH h (by simp)) hs)
theorem pass_le {H : List Hp} (hH : ∀ h ∈ H, Hok h) {size : Int} (hs : 1 ≤ size) : ∀ {l : List Int}, Aok l → ∀ i : Nat, i < 21 → gt (pass H size l) (i : Int) ≤ gt l (i : Int) := by
  induction H with
  | nil => intro l hl i hi; exact Int.le_refl _
  | cons h H ih =>
    intro l hl i hi
    have ho := hH h (by simp)
    exact Int.le_trans (ih (fun x hx => hH x (by simp [hx])) (rx_ok hl ho hs) i hi) (rx_le hl.len ho i hi)
/-- A fixed list: no hop improves it. -/
theorem fixed_hop {H : List Hp} (hH : ∀ h ∈ H, Hok h) {size : Int} (hs : 1 ≤ size) : ∀ {E : List Int}, Aok E → pass H size E = E → ∀ h ∈ H, gt E h.dst ≤ hend' h.w (gt E h.src) size := by
  induction H with
  | nil => intro E _ _ h hh; simp at hh
  | cons h0 H ih =>
    intro E hE hp h hh
    have ho := hH h0 (by simp)
    have hH' : ∀ x ∈ H, Hok x := fun x hx => hH x (by simp [hx])
    have h1 : pass H size (rx size E h0) = E := hp
    have e : rx size E h0 = E := ext21 (by rw [rx_len, hE.len]) hE.len fun i hi => by
      have a := rx_le (size := size) hE.len ho i hi
      have b := pass_le hH' hs (rx_ok hE ho hs) i hi
      rw [h1] at b
      omega
    rw [e] at h1
    rcases List.mem_cons.1 hh with rfl | hh
    · obtain ⟨d, hd, hd2⟩ := gt_hi (l := E) ho
      have g := gt_rx (size := size) hE.len ho d hd2
      rw [e, hd, if_pos rfl] at g
      rw [hd]
      omega
    · exact ih hH' hE h1 h hh
/-- Whatever node has a tick has a hop that gives it. -/
def Inv (H : List Hp) (craft size : Int) (l : List Int) : Prop := ∀ i : Nat, i < 21 → (i : Int) ≠ craft → gt l (i : Int) < 1000001 → ∃ h ∈ H, h.dst = (i : Int) ∧ hend' h.w (gt l h.src) size ≤ gt l (i : Int)
theorem inv_rx {H : List Hp} {craft size : Int} {l : List Int} {h0 : Hp} (hl : Aok l) (hs : 1 ≤ size) (hH : ∀ h ∈ H, Hok h) (hm : h0 ∈ H) (hi : Inv H craft size l) : Inv H craft size (rx size l h0) := by
  intro i hi21 hc hlt
  have ho := hH h0 hm
  have g := gt_rx (size := size) hl.len ho i hi21
  have le : ∀ h ∈ H, hend' h.w (gt (rx size l h0) h.src) size ≤ hend' h.w (gt l h.src) size := fun h hh => by
    obtain ⟨s, hse, hs12⟩ := src_nat (hH h hh)
    rw [hse]
    exact hend_mono (hH h hh).w (rx_le hl.len ho s (by omega)) hs
  by_cases hd : (i : Int) = h0.dst ∧ hend' h0.w (gt l h0.src) size < gt l (i : Int)
  · rw [if_pos hd.1] at g
    refine ⟨h0, hm, hd.1.symm, ?_⟩
    have := le h0 hm
    omega
  · have g2 : gt (rx size l h0) (i : Int) = gt l (i : Int) := by
      rw [g]
      split
      · rename_i e; have := fun h => hd ⟨e, h⟩; omega
      · rfl
    rw [g2] at hlt ⊢
    obtain ⟨h, hh, h1, h2⟩ := hi i hi21 hc hlt
    exact ⟨h, hh, h1, Int.le_trans (le h hh) h2⟩
theorem inv_pass {H G : List Hp} {craft size : Int} (hs : 1 ≤ size) (hH : ∀ h ∈ H, Hok h) (hG : ∀ h ∈ G, h ∈ H) : ∀ {l : List Int}, Aok l → Inv H craft size l → Inv H craft size (pass G size l) := by
  induction G with
  | nil => intro l _ hi; exact hi
  | cons h G ih => intro l hl hi; exact ih (fun x hx => hG x (by simp [hx])) (rx_ok hl (hH h (hG h (by simp))) hs) (inv_rx hl hs hH (hG h (by simp)) hi)
theorem itr_ok {H : List Hp} (hH : ∀ h ∈ H, Hok h) {size : Int} (hs : 1 ≤ size) {l : List Int} (hl : Aok l) : ∀ k, Aok (itr H size k l)
  | 0 => hl
  | k + 1 => pass_ok hH hs (itr_ok hH hs hl k)
theorem gt_ini {craft tick : Int} (hc : 0 ≤ craft ∧ craft < 12) (i : Nat) (hi : i < 21) : gt (ini craft tick) (i : Int) = if (i : Int) = craft then tick else 1000001 := by
  obtain ⟨c, rfl⟩ : ∃ c : Nat, craft = c := ⟨craft.toNat, by omega⟩
  unfold ini
  rw [Int.toNat_natCast, gt_set (by simp; omega)]
  have : gt (List.replicate 21 (1000001 : Int)) (i : Int) = 1000001 := by unfold gt; rw [Int.toNat_natCast, List.getElem?_replicate, if_pos hi]; rfl
  rw [this]
  by_cases e : i = c
  · subst e; simp
  · rw [if_neg e, if_neg (by omega)]
theorem itr_inv {H : List Hp} (hH : ∀ h ∈ H, Hok h) {craft tick size : Int} (hs : 1 ≤ size) (hc : 0 ≤ craft ∧ craft < 12) (ht : 0 ≤ tick ∧ tick ≤ 1000000) : ∀ k, Inv H craft size (itr H size k (ini craft tick))
  | 0 => fun i hi hn hlt => by
    show _
    rw [show itr H size 0 (ini craft tick) = ini craft tick from rfl, gt_ini hc i hi, if_neg hn] at hlt
    omega
  | k + 1 => inv_pass hs hH (fun h hh => hh) (itr_ok hH hs (ini_ok hc ht) k) (itr_inv hH hs hc ht k)
theorem hl_ok {T : List Wn} : ∀ h ∈ hl T, Hok h := fun h hh => by
  obtain ⟨x, _, rfl⟩ := List.mem_map.1 hh
  exact hok_of x
/-- The hops by which a node is reached first. -/
theorem good_hop {T : List Wn} {craft tick size : Int} {E : List Int} (hs : 1 ≤ size) (hc : 0 ≤ craft ∧ craft < 12) (ht : 0 ≤ tick ∧ tick ≤ 1000000) (hE : Erl T craft tick size E) (i : Nat) (hi : i < 21) (hn : (i : Int) ≠ craft) (hlt : gt E (i : Int) < 1000001) :
    ∃ h ∈ hl T, h.dst = (i : Int) ∧ hend' h.w (gt E h.src) size = gt E (i : Int) := by
  obtain ⟨k, hk⟩ := hE.steps
  have hv := itr_inv hl_ok hs hc ht k (H := hl T)
  rw [← hk] at hv
  obtain ⟨h, hh, h1, h2⟩ := hv i hi hn hlt
  have h3 := fixed_hop hl_ok hs hE.ok hE.last h hh
  rw [h1] at h3
  exact ⟨h, hh, h1, by omega⟩
theorem bef_fold (E : List Int) (nd size : Int) : ∀ (H : List Hp) (m : Int), H.foldl (bstep E nd size) m ≤ m ∧ (∀ h ∈ H, h.dst = nd → hend' h.w (gt E h.src) size = gt E nd → H.foldl (bstep E nd size) m ≤ h.src) ∧ (H.foldl (bstep E nd size) m = m ∨ ∃ h ∈ H, h.dst = nd ∧ hend' h.w (gt E h.src) size = gt E nd ∧ H.foldl (bstep E nd size) m = h.src)
  | [], m => ⟨Int.le_refl _, fun h hh => by simp at hh, .inl rfl⟩
  | h0 :: H, m => by
    obtain ⟨a, b, c⟩ := bef_fold E nd size H (bstep E nd size m h0)
    have hb : bstep E nd size m h0 ≤ m ∧ (h0.dst = nd → hend' h0.w (gt E h0.src) size = gt E nd → bstep E nd size m h0 ≤ h0.src) ∧ (bstep E nd size m h0 = m ∨ (h0.dst = nd ∧ hend' h0.w (gt E h0.src) size = gt E nd ∧ bstep E nd size m h0 = h0.src)) := by
      unfold bstep
      split
      · rename_i hg
        refine ⟨by omega, fun _ _ => by omega, ?_⟩
        rcases Int.le_total m h0.src with hle | hle
        · exact .inl (by omega)
        · exact .inr ⟨hg.1, hg.2, by omega⟩
      · rename_i hg
        exact ⟨Int.le_refl _, fun x y => absurd ⟨x, y⟩ hg, .inl rfl⟩
    show (H.foldl (bstep E nd size) (bstep E nd size m h0) ≤ m) ∧ _ ∧ _
    refine ⟨Int.le_trans a hb.1, fun h hh h1 h2 => ?_, ?_⟩
    · rcases List.mem_cons.1 hh with rfl | hh
      · exact Int.le_trans a (hb.2.1 h1 h2)
      · exact b h hh h1 h2
    · rcases c with c | ⟨h, hh, h1, h2, h3⟩
      · rcases hb.2.2 with d | ⟨d1, d2, d3⟩
        · exact .inl (c.trans d)
        · exact .inr ⟨h0, by simp, d1, d2, c.trans d3⟩
      · exact .inr ⟨h, by simp [hh], h1, h2, h3⟩
/-- The node before. -/
theorem bef_good {T : List Wn} {craft tick size : Int} {E : List Int} (hs : 1 ≤ size) (hc : 0 ≤ craft ∧ craft < 12) (ht : 0 ≤ tick ∧ tick ≤ 1000000) (hE : Erl T craft tick size E) {n : Int} (hn : Nd E n) (hne : n ≠ craft) :
    (∃ h ∈ hl T, h.dst = n ∧ hend' h.w (gt E h.src) size = gt E n ∧ befL E n size (hl T) = h.src) ∧ (∀ h ∈ hl T, h.dst = n → hend' h.w (gt E h.src) size = gt E n → befL E n size (hl T) ≤ h.src) := by
  obtain ⟨i, rfl⟩ : ∃ i : Nat, n = i := ⟨n.toNat, by have := hn.rg; omega⟩
  obtain ⟨h, hh, h1, h2⟩ := good_hop hs hc ht hE i (by have := hn.rg; omega) hne hn.tk.2
  obtain ⟨a, b, c⟩ := bef_fold E i size (hl T) 21
  refine ⟨?_, b⟩
  rcases c with c | c
  · have h3 := b h hh h1 h2
    have h4 := (hl_ok h hh).src
    omega
  · exact c
theorem bef_nd {T : List Wn} {craft tick size : Int} {E : List Int} (hs : 1 ≤ size) (hc : 0 ≤ craft ∧ craft < 12) (ht : 0 ≤ tick ∧ tick ≤ 1000000) (hE : Erl T craft tick size E) {n : Int} (hn : Nd E n) (hne : n ≠ craft) :
    Nd E (befL E n size (hl T)) ∧ gt E (befL E n size (hl T)) < gt E n ∧ befL E n size (hl T) < 12 := by
  obtain ⟨⟨h, hh, h1, h2, h3⟩, _⟩ := bef_good hs hc ht hE hn hne
  have ho := hl_ok h hh
  obtain ⟨s, hse, hs12⟩ := src_nat ho
  have hb := hE.ok.bd s (by omega)
  rw [h3, hse]
  rw [hse] at h2
  have h4 := (hend_bd ho.w hb.1 hs).2.2
  have h5 := hn.tk
  rw [h2] at h4
  have h6 := h4 h5.2
  exact ⟨⟨by omega, by omega⟩, h6, by omega⟩
end Q
end Go.Proofs.Ytojflmejkigdiaa
