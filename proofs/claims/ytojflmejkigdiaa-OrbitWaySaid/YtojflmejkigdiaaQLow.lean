/-
  Lower bounds of earliest arrivals: later starts, larger messages, fewer windows; twelve passes are enough.
-/
import Derived.Test.YtojflmejkigdiaaQMt2
import Derived.Test.YtojflmejkigdiaaQLiv
import Derived.Test.YtojflmejkigdiaaQGood
namespace Go.Proofs.Ytojflmejkigdiaa
open Go.RowKit
namespace Q
open H
set_option linter.unusedVariables false
set_option linter.unusedSimpArgs false
/-- F is below l. -/
def Low (F : Int → Int) (l : List Int) : Prop := ∀ i : Nat, i < 21 → F i ≤ gt l (i : Int)
/-- No hop is earlier than F allows. -/
def Cl (H : List Hp) (F : Int → Int) (size : Int) : Prop := ∀ h ∈ H, F h.dst ≤ hend' h.w (F h.src) size
theorem low_rx {F : Int → Int} {l : List Int} {h : Hp} {size : Int} (hl : l.length = 21) (ho : Hok h) (hs : 1 ≤ size) (hF : F h.dst ≤ hend' h.w (F h.src) size) (h0 : Low F l) : Low F (rx size l h) := fun i hi => by
  have h1 := h0 i hi
  obtain ⟨s, hse, hs12⟩ := src_nat ho
  have h2 := h0 s (by omega)
  have h3 := hend_mono ho.w (t := F h.src) (t' := gt l h.src) (by rw [hse]; exact h2) hs
  rw [gt_rx hl ho i hi]
  split
  · rename_i e; rw [← e] at hF; omega
  · exact h1
theorem low_pass {F : Int → Int} {size : Int} (hs : 1 ≤ size) : ∀ {H : List Hp} {l : List Int}, (∀ h ∈ H, Hok h) → l.length = 21 → Cl H F size → Low F l → Low F (pass H size l)
  | [], l, _, _, _, h0 => h0
  | h :: H, l, hH, hl, hF, h0 => low_pass hs (H := H) (l := rx size l h) (fun x hx => hH x (by simp [hx])) (by rw [rx_len, hl]) (fun x hx => hF x (by simp [hx])) (low_rx hl (hH h (by simp)) hs (hF h (by simp)) h0)
theorem low_itr {F : Int → Int} {H : List Hp} {size : Int} (hs : 1 ≤ size) (hH : ∀ h ∈ H, Hok h) {l : List Int} (hl : Aok l) (hF : Cl H F size) (h0 : Low F l) : ∀ k, Low F (itr H size k l)
  | 0 => h0
  | k + 1 => low_pass hs hH (itr_ok hH hs hl k).len hF (low_itr hs hH hl hF h0 k)
theorem low_erl {T : List Wn} {craft tick size : Int} {E : List Int} {F : Int → Int} (hs : 1 ≤ size) (hc : 0 ≤ craft ∧ craft < 12) (ht : 0 ≤ tick ∧ tick ≤ 1000000) (hE : Erl T craft tick size E) (hF : Cl (hl T) F size) (h0 : ∀ i : Nat, i < 21 → F i ≤ 1000001) (h1 : F craft ≤ tick) : Low F E := by
  obtain ⟨k, rfl⟩ := hE.steps
  refine low_itr hs hl_ok (ini_ok hc ht) hF (fun i hi => ?_) k
  rw [gt_ini hc i hi]
  split
  · rename_i e; rw [e]; exact h1
  · exact h0 i hi
theorem low_tick {T : List Wn} {craft tick size : Int} {E : List Int} (hs : 1 ≤ size) (hc : 0 ≤ craft ∧ craft < 12) (ht : 0 ≤ tick ∧ tick ≤ 1000000) (hE : Erl T craft tick size E) (i : Nat) (hi : i < 21) : tick ≤ gt E (i : Int) := by
  refine low_erl (F := fun _ => tick) hs hc ht hE (fun h hh => ?_) (fun _ _ => by omega) (Int.le_refl _) i hi
  have h1 := hend_bd (hl_ok h hh).w (t := tick) (size := size) (by omega) hs
  show tick ≤ hend' h.w tick size
  by_cases hc : hend' h.w tick size < 1000001
  · have := h1.2.2 hc; omega
  · omega
theorem itr_le {H : List Hp} {size : Int} (hs : 1 ≤ size) (hH : ∀ h ∈ H, Hok h) {l : List Int} (hl : Aok l) (i : Nat) (hi : i < 21) : ∀ k, gt (itr H size k l) (i : Int) ≤ gt l (i : Int)
  | 0 => Int.le_refl _
  | k + 1 => Int.le_trans (pass_le hH hs (itr_ok hH hs hl k) i hi) (itr_le hs hH hl i hi k)
theorem erl_le {T : List Wn} {craft tick size : Int} {E : List Int} (hs : 1 ≤ size) (hc : 0 ≤ craft ∧ craft < 12) (ht : 0 ≤ tick ∧ tick ≤ 1000000) (hE : Erl T craft tick size E) (i : Nat) (hi : i < 21) : gt E (i : Int) ≤ gt (ini craft tick) (i : Int) := by
  obtain ⟨k, hk⟩ := hE.steps
  rw [hk]
  exact itr_le hs hl_ok (ini_ok hc ht) i hi k
theorem erl_craft {T : List Wn} {craft tick size : Int} {E : List Int} (hs : 1 ≤ size) (hc : 0 ≤ craft ∧ craft < 12) (ht : 0 ≤ tick ∧ tick ≤ 1000000) (hE : Erl T craft tick size E) : gt E craft = tick := by
  obtain ⟨c, rfl⟩ : ∃ c : Nat, craft = c := ⟨craft.toNat, by omega⟩
  have h1 := low_tick hs hc ht hE c (by omega)
  have h2 := erl_le hs hc ht hE c (by omega)
  rw [gt_ini hc c (by omega), if_pos rfl] at h2
  omega
/-- Later, larger: not earlier. -/
theorem erl_later {T L : List Wn} {craft tick size tick' size' : Int} {E E' : List Int} (hs : 1 ≤ size) (hs' : size ≤ size') (hc : 0 ≤ craft ∧ craft < 12) (ht : 0 ≤ tick ∧ tick ≤ tick' ∧ tick' ≤ 1000000) (hsub : ∀ h ∈ hl L, h ∈ hl T) (hE : Erl T craft tick size E) (hE' : Erl L craft tick' size' E') (i : Nat) (hi : i < 21) : gt E (i : Int) ≤ gt E' (i : Int) := by
  refine low_erl (F := fun j => gt E j) (by omega) hc (by omega) hE' (fun h hh => ?_) (fun j hj => (hE.ok.bd j hj).2) ?_ i hi
  · have hw := hl_ok h hh
    have h1 := fixed_hop hl_ok hs hE.ok hE.last h (hsub h hh)
    refine Int.le_trans h1 ?_
    have d1 := dv_bd (c := size - 1) (by omega) hw.w.rate.1
    have d2 : (size - 1) / h.w.rate ≤ (size' - 1) / h.w.rate := Int.ediv_le_ediv (by have := hw.w.rate.1; omega) (by omega)
    have hu := hw.w.un
    have hbd : 0 ≤ beg h.w (gt E h.src) := by unfold beg; have := hw.w.fr; omega
    show hend' h.w (gt E h.src) size ≤ hend' h.w (gt E h.src) size'
    unfold hend' dur
    split <;> split <;> omega
  · show gt E craft ≤ tick'
    rw [erl_craft hs hc ⟨ht.1, by omega⟩ hE]
    exact ht.2.1
theorem erl_after {T : List Wn} {craft tick size : Int} {E : List Int} (hs : 1 ≤ size) (hc : 0 ≤ craft ∧ craft < 12) (ht : 0 ≤ tick ∧ tick ≤ 1000000) (hE : Erl T craft tick size E) {n : Int} (hn : Nd E n) (hne : n ≠ craft) : tick < gt E n := by
  obtain ⟨h1, h2, h3⟩ := bef_nd hs hc ht hE hn hne
  obtain ⟨i, hi⟩ : ∃ i : Nat, befL E n size (hl T) = i := ⟨(befL E n size (hl T)).toNat, by have := h1.rg; omega⟩
  rw [hi] at h1 h2
  have := low_tick hs hc ht hE i (by have := h1.rg; omega)
  omega
theorem hl_sub {T L : List Wn} (h : ∀ x ∈ L, x ∈ T) : ∀ y ∈ hl L, y ∈ hl T := fun y hy => by
  rw [hl_eq] at hy ⊢
  obtain ⟨x, hx, hxy⟩ := List.mem_flatMap.1 hy
  obtain ⟨h1, h2⟩ := List.mem_filter.1 hx
  exact List.mem_flatMap.2 ⟨x, List.mem_filter.2 ⟨h x h1, h2⟩, hxy⟩
theorem erl_one {T : List Wn} {craft tick size : Int} {E F : List Int} (h : Erl T craft tick size E) (k : Erl T craft tick size F) : E = F := by
  obtain ⟨j, hj⟩ := h.steps
  obtain ⟨i, hi⟩ := k.steps
  exact itr_one hj h.last hi k.last
/-- How many crafts are reached earlier than a node. -/
def rk (E : List Int) (n : Int) : Nat := (List.range 12).countP fun m : Nat => decide (gt E (m : Int) < gt E n)
theorem rk_le (E : List Int) (n : Int) : rk E n ≤ 12 := by
  unfold rk
  have h := List.countP_le_length (p := fun m : Nat => decide (gt E (m : Int) < gt E n)) (l := List.range 12)
  rwa [List.length_range] at h
theorem cnt_lt {p q : Nat → Bool} : ∀ {l : List Nat}, (∀ x ∈ l, p x = true → q x = true) → (∃ x ∈ l, q x = true ∧ p x = false) → l.countP p < l.countP q
  | [], _, ⟨x, hx, _⟩ => by simp at hx
  | y :: l, h, ⟨x, hx, h1, h2⟩ => by
    have hle : l.countP p ≤ l.countP q := List.countP_mono_left fun z hz => h z (by simp [hz])
    rw [List.countP_cons, List.countP_cons]
    rcases List.mem_cons.1 hx with rfl | hx
    · rw [h1, h2]; simp; omega
    · have ih := cnt_lt (fun z hz => h z (by simp [hz])) ⟨x, hx, h1, h2⟩
      have := h y (by simp)
      cases hp : p y with
      | false => simp; split <;> omega
      | true => rw [this hp]; simp; omega
theorem rk_lt {E : List Int} {n : Int} {m : Nat} (hm : m < 12) (h : gt E (m : Int) < gt E n) : rk E (m : Int) < rk E n :=
  cnt_lt (fun x _ hx => by simp only [decide_eq_true_eq] at *; omega) ⟨m, by simpa using hm, by simpa using h, by simp⟩
theorem pass_hop {size : Int} (hs : 1 ≤ size) : ∀ {H : List Hp} {l : List Int}, (∀ h ∈ H, Hok h) → Aok l → ∀ h ∈ H, gt (pass H size l) h.dst ≤ hend' h.w (gt l h.src) size
  | [], _, _, _, h, hh => by simp at hh
  | g :: H, l, hH, hl, h, hh => by
    have ho := hH h hh
    have hg := hH g (by simp)
    have hok := rx_ok hl hg hs
    obtain ⟨d, hd, hd21⟩ := gt_hi (l := l) ho
    obtain ⟨s, hse, hs12⟩ := src_nat ho
    have hH' : ∀ x ∈ H, Hok x := fun x hx => hH x (by simp [hx])
    show gt (pass H size (rx size l g)) h.dst ≤ _
    rcases List.mem_cons.1 hh with rfl | hh
    · have h1 := pass_le hH' hs hok d hd21
      have h2 := gt_rx hl.len ho d hd21 (size := size)
      rw [if_pos hd.symm] at h2
      rw [hd]
      omega
    · refine Int.le_trans (pass_hop hs hH' hok h hh) (hend_mono ho.w ?_ hs)
      rw [hse]
      exact rx_le hl.len hg s (by omega)
theorem cl_erl {T : List Wn} {craft tick size : Int} {E : List Int} (hs : 1 ≤ size) (hE : Erl T craft tick size E) : Cl (hl T) (fun j => gt E j) size := fixed_hop hl_ok hs hE.ok hE.last
theorem low_self {T : List Wn} {craft tick size : Int} {E : List Int} (hs : 1 ≤ size) (hc : 0 ≤ craft ∧ craft < 12) (ht : 0 ≤ tick ∧ tick ≤ 1000000) (hE : Erl T craft tick size E) (k : Nat) (i : Nat) (hi : i < 21) : gt E (i : Int) ≤ gt (itr (hl T) size k (ini craft tick)) (i : Int) :=
  low_itr (F := fun j => gt E j) hs hl_ok (ini_ok hc ht) (cl_erl hs hE) (fun i hi => erl_le hs hc ht hE i hi) k i hi
/-- A node is settled after as many passes as crafts are reached earlier. -/
theorem settled {T : List Wn} {craft tick size : Int} {E : List Int} (hs : 1 ≤ size) (hc : 0 ≤ craft ∧ craft < 12) (ht : 0 ≤ tick ∧ tick ≤ 1000000) (hE : Erl T craft tick size E) : ∀ (r : Nat) (i : Nat), i < 21 → rk E (i : Int) ≤ r → ∀ j, r ≤ j → gt (itr (hl T) size j (ini craft tick)) (i : Int) = gt E (i : Int)
  | r, i, hi, hr, j, hj => by
    have hlow := low_self hs hc ht hE j i hi
    have hok := itr_ok hl_ok hs (ini_ok hc ht) j (H := hl T)
    by_cases hn : gt E (i : Int) < 1000001
    · by_cases hic : (i : Int) = craft
      · have h1 := itr_le hs hl_ok (ini_ok hc ht) i hi j (H := hl T) (size := size)
        rw [gt_ini hc i hi, if_pos hic] at h1
        have h2 := erl_craft hs hc ht hE
        rw [hic] at hlow h1 ⊢
        omega
      · have nd : Nd E (i : Int) := ⟨⟨by omega, by omega⟩, ⟨(hE.ok.bd i hi).1, hn⟩⟩
        obtain ⟨⟨h, hh, h1, h2, h3⟩, _⟩ := bef_good hs hc ht hE nd hic
        have hb := bef_nd hs hc ht hE nd hic
        obtain ⟨s, hse, hs12⟩ := src_nat (hl_ok h hh)
        rw [h3, hse] at hb
        have hrk := rk_lt hs12 hb.2.1
        match j, hj with
        | 0, hj => omega
        | j + 1, hj =>
          have ih := settled hs hc ht hE (r - 1) s (by omega) (by omega) j (by omega)
          have h4 := pass_hop hs hl_ok (itr_ok hl_ok hs (ini_ok hc ht) j (H := hl T)) h hh
          rw [h1, hse, ih, ← hse, h2] at h4
          exact Int.le_antisymm h4 hlow
    · have := (hok.bd i hi).2
      omega
  termination_by r => r
  decreasing_by omega
/-- Twelve passes are enough. -/
theorem twelve {T : List Wn} {craft tick size : Int} {E : List Int} (hs : 1 ≤ size) (hc : 0 ≤ craft ∧ craft < 12) (ht : 0 ≤ tick ∧ tick ≤ 1000000) (hE : Erl T craft tick size E) : itr (hl T) size 12 (ini craft tick) = E :=
  ext21 (itr_ok hl_ok hs (ini_ok hc ht) 12).len hE.ok.len fun i hi => settled hs hc ht hE 12 i hi (rk_le _ _) 12 (Nat.le_refl _)
theorem chn_len {T : List Wn} {craft tick size : Int} {E : List Int} (hs : 1 ≤ size) (hc : 0 ≤ craft ∧ craft < 12) (ht : 0 ≤ tick ∧ tick ≤ 1000000) (hE : Erl T craft tick size E) {n : Int} {l : List Int} (h : Chn (fun n => befL E n size (hl T)) craft n l) (hn : Nd E n) : l.length ≤ rk E n + 1 := by
  induction h with
  | base => simp
  | step hne h ih =>
    rename_i n l
    obtain ⟨h1, h2, h3⟩ := bef_nd hs hc ht hE hn hne
    have := ih h1
    obtain ⟨s, hse⟩ : ∃ s : Nat, befL E n size (hl T) = s := ⟨(befL E n size (hl T)).toNat, by have := h1.rg; omega⟩
    rw [hse] at this h2 h3
    have hr := rk_lt (E := E) (n := n) (m := s) (by omega) h2
    rw [List.length_append, List.length_cons, List.length_nil]
    omega
end Q
end Go.Proofs.Ytojflmejkigdiaa
