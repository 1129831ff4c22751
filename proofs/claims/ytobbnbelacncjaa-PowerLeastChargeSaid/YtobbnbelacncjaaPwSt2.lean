/-
  The landed iterator of stretches.
-/
import Derived.Test.YtobbnbelacncjaaPwStr
import Derived.Test.YtobbnbelacncjaaQTks
import Derived.Sort.CutIn
namespace Go.Proofs.Ytobbnbelacncjaa
open Go.RowKit Go.Shelf
attribute [local go_sem] Oper.semAt_some
namespace Pw
open H
set_option linter.unusedVariables false
set_option linter.unusedSimpArgs false
set_option maxRecDepth 100000
/-- The eclipse's stretches, k rounds over. -/
theorem chg_at1 {T : List Q.Wn} {a f u sun : Int} {i : Nat} {x : Q.Wn} (hx : T[i]? = some x) (he : ecl a x = true) : ∀ (j : Nat) p, (chgY u (stS a u sun (f, sun) (T.take i)) x.fr)[j]? = some p → (allY T a f u sun)[(stY a u sun (f, sun) (T.take i)).length + j]? = some p := by
  intro j p hp
  have h := stY_pre T a f u sun (i + 1)
  rw [stY_step hx] at h
  refine pre_at h ?_
  unfold wY
  rw [if_pos he, List.getElem?_append_left (List.getElem?_eq_some_iff.1 hp).1]
  exact hp
theorem chg_at2 {T : List Q.Wn} {a f u sun : Int} {i : Nat} {x : Q.Wn} (hx : T[i]? = some x) (he : ecl a x = true) : ∀ (j : Nat) p, (chgY u (chgS u (stS a u sun (f, sun) (T.take i)) x.fr 0) x.un)[j]? = some p → (allY T a f u sun)[(stY a u sun (f, sun) (T.take i)).length + (chgY u (stS a u sun (f, sun) (T.take i)) x.fr).length + j]? = some p := by
  intro j p hp
  have h := stY_pre T a f u sun (i + 1)
  rw [stY_step hx] at h
  rw [Nat.add_assoc]
  refine pre_at h ?_
  unfold wY
  rw [if_pos he, List.getElem?_append_right (by omega), Nat.add_sub_cancel_left]
  exact hp
theorem chg_at3 {T : List Q.Wn} {a f u sun : Int} : ∀ (j : Nat) p, (chgY u (stS a u sun (f, sun) T) u)[j]? = some p → (allY T a f u sun)[(stY a u sun (f, sun) T).length + j]? = some p := by
  intro j p hp
  exact pre_at (List.prefix_refl _) hp
theorem Kb.low {E E' : Nat → Prop} {W V V' : World} (h : Kb E W V) (k : Kb E' V V') (he : ∀ b, b < W.heap.size → E' b → E b) : Kb E W V' :=
  ⟨Nat.le_trans h.size k.size, fun b hb hn => (k.same b (Nat.lt_of_lt_of_le hb h.size) (fun e => hn (he b hb e))).trans (h.same b hb hn)⟩
theorem kb_wn {E : Nat → Prop} {w W : World} {B : Nat} {A : Option Addr} {T : List Q.Wn} (h : Kb E w W) (hR : Q.RdsWn w B A T) (hB : B ≤ w.heap.size) (hf : ∀ b, b < B → ¬ E b) : Q.RdsWn W B A T := fun j x hx => by
  obtain ⟨ad, e, ha, hr⟩ := hR j x hx
  have hlt : (ad.add (j * 6)).block < B := by rw [add_block]; exact ha
  have hc : ∀ p : Addr, p.block = (ad.add (j * 6)).block → W.cell? p = w.cell? p := fun p hp => World.cell?_of_block (w := w) (h.same _ (by omega) (hf _ (by omega)))
  exact ⟨ad, e, ha, (hc (ad.add (j * 6)) rfl).trans hr.c0, (hc ⟨(ad.add (j * 6)).block, (ad.add (j * 6)).off + 1, none⟩ rfl).trans hr.c1, (hc ⟨(ad.add (j * 6)).block, (ad.add (j * 6)).off + 2, none⟩ rfl).trans hr.c2, (hc ⟨(ad.add (j * 6)).block, (ad.add (j * 6)).off + 3, none⟩ rfl).trans hr.c3, (hc ⟨(ad.add (j * 6)).block, (ad.add (j * 6)).off + 4, none⟩ rfl).trans hr.c4, (hc ⟨(ad.add (j * 6)).block, (ad.add (j * 6)).off + 5, none⟩ rfl).trans hr.c5⟩
/-- The iterator's memory: its boxes, and what it reads. -/
structure Im (W V : World) (E : Nat → Prop) (l By Bt Bg : Nat) (t g : Int) : Prop where
  kb : Kb (fun b => E b ∨ b = l) W V
  bt : Boxed V Bt 3 (.int .i64 t)
  bg : Boxed V Bg 3 (.int .i64 g)
  by_ : V.cell? ⟨By, 0, none⟩ = some (.func (.yield l) #[] #[])
theorem Im.call {W V V' : World} {E : Nat → Prop} {l By Bt Bg : Nat} {t g : Int} (h : Im W V E l By Bt Bg t g) (hB : Below V.heap.size V V') : Im W V' E l By Bt Bg t g :=
  ⟨h.kb.call hB, (hB.block _ h.bt.lt).trans h.bt, (hB.block _ h.bg.lt).trans h.bg, below_cell hB h.by_⟩
theorem st_bd {T : List Q.Wn} {a f u sun : Int} (hT : ∀ x ∈ T, Q.Tok x) (hf : 0 ≤ f ∧ f ≤ 1000001) (hu : 0 ≤ u ∧ u ≤ 1000001) : ∀ i, 0 ≤ (stS a u sun (f, sun) (T.take i)).1 ∧ (stS a u sun (f, sun) (T.take i)).1 ≤ 1000001
  | 0 => hf
  | i + 1 => by
    have ih := st_bd hT hf hu i (a := a) (sun := sun)
    cases hx : T[i]? with
    | none =>
      have : T.take (i + 1) = T.take i := by rw [List.take_add_one, hx]; simp
      rw [this]
      exact ih
    | some x =>
      rw [stS_step hx]
      have tok := hT x (List.mem_of_getElem? hx)
      have h1 := tok.fr
      have h2 := tok.un
      unfold wS
      split
      · have e1 := (chgS_fst u (stS a u sun (f, sun) (T.take i)) x.fr 0).1
        have e2 := (chgS_fst u (chgS u (stS a u sun (f, sun) (T.take i)) x.fr 0) x.un sun).1
        omega
      · exact ih
set_option maxHeartbeats 4000000 in
theorem str1_in (n : Nat) (hn : 2 ≤ n) (l Bf Bs Bu Bb Bc len0 : Nat) (A : Option Addr) (cap : Nat) (T : List Q.Wn) (a f u sun : Int) (J : Nat → World → Prop) (X : World → Prop) (E : Nat → Prop) (W : World)
    (hlen : T.length ≤ 140737488351232) (hf : 0 ≤ f ∧ f ≤ 1000001) (hu : 0 ≤ u ∧ u ≤ 1000001) (hT : ∀ x ∈ T, Q.Tok x)
    (hJ : ∀ k A C, J k A → Below W.heap.size A C → J k C)
    (hY : ∀ k W1, k < (allY T a f u sun).length → J k W1 → W.heap.size ≤ W1.heap.size → YieldAt Fence.wide (n - 1) Try.prog l (encS (allY T a f u sun) k) W1 fun e W' => (e = .returned (.bool true) ∧ J (k + 1) W' ∧ Kb (fun b => E b ∨ b = l) W1 W') ∨ (e = .returned (.bool false) ∧ X W'))
    (hEB : ∀ b, E b → b < W.heap.size) (hlB : l < W.heap.size) (hl0 : len0 ≤ l)
    (hBf : Bf < l) (hBs : Bs < l) (hBu : Bu < l) (hBb : Bb < l) (hBc : Bc < l) (eBf : ¬ E Bf) (eBs : ¬ E Bs) (eBu : ¬ E Bu) (eBb : ¬ E Bb) (eBc : ¬ E Bc) (eT : ∀ b, b < len0 → ¬ E b)
    (zf : W.cell? ⟨Bf, 0, none⟩ = some (.int .i64 f)) (zs : W.cell? ⟨Bs, 0, none⟩ = some (.int .i64 sun)) (zu : W.cell? ⟨Bu, 0, none⟩ = some (.int .i64 u)) (zb : W.cell? ⟨Bb, 0, none⟩ = some (.slice A T.length cap)) (zc : W.cell? ⟨Bc, 0, none⟩ = some (.int .i64 a))
    (hR : Q.RdsWn W len0 A T) (h0 : J 0 W) :
    CallsIn Fence.wide n Try.prog 61 #[.func (.yield l) #[] #[], bp Bf, bp Bs, bp Bu, bp Bb, bp Bc] W fun e W' => (∃ v, e = .returned v) ∧ (J (allY T a f u sun).length W' ∨ X W') := by
  have hbf := World.block_lt_of_cell? _ _ zf
  have hbs := World.block_lt_of_cell? _ _ zs
  have hbb := World.block_lt_of_cell? _ _ zb
  dsimp only at hbf hbs hbb
  refine callsIn_of_wp Try.func61 rfl trivial ?_ rfl
  simp only [Try.ntmps61, List.size_toArray, List.length_cons, List.length_nil, Nat.reduceAdd, Nat.reduceSub, Array.replicate_succ, Array.replicate_zero, List.push_toArray, List.append_toArray, List.nil_append, List.cons_append]
  gi_wp2
  obtain ⟨W1, hW1⟩ : ∃ W1, W1 = W.alloc (.cells #[.func (.yield l) #[] #[]] 98) := ⟨_, rfl⟩
  rw [← hW1]
  have zf1 : W1.cell? ⟨Bf, 0, none⟩ = some (.int .i64 f) := by rw [hW1]; exact cell_under _ zf
  have zs1 : W1.cell? ⟨Bs, 0, none⟩ = some (.int .i64 sun) := by rw [hW1]; exact cell_under _ zs
  have hsz1 : W1.heap.size = W.heap.size + 1 := by rw [hW1]; simp
  have hyc : W1.cell? ⟨W.heap.size, 0, none⟩ = some (.func (.yield l) #[] #[]) := by rw [hW1]; exact cell_top _ _ _ _
  have HB1 : Hid (Below W.heap.size W W1) := Lib.hid (by rw [hW1]; exact bel1 W _)
  clear hW1
  rename_i Q0 K hK
  have HGET := Lib.hid (fun k (hk : k < T.length) => (⟨T[k], List.getElem?_eq_getElem hk⟩ : ∃ x, T[k]? = some x))
  have HTK := Lib.hid hT
  have HJ := Lib.hid hJ
  have HEB := Lib.hid hEB
  have HCH := Lib.hid (fun (at_ nx : Int) (s : Int × Int) (k : Nat) (V : World) (Bt Bg : Nat) (hat : 0 ≤ at_ ∧ at_ ≤ 1000001) (ht : 0 ≤ s.1 ∧ s.1 ≤ 1000001) (hys : ∀ (j : Nat) p, (chgY u s at_)[j]? = some p → (allY T a f u sun)[k + j]? = some p) (h1 : W.heap.size < Bt) (h2 : W.heap.size < Bg) (h3 : Bt ≠ Bg) (hm : Im W V E l W.heap.size Bt Bg s.1 s.2) (hj : J k V) =>
    change_in (n - 1) (by omega) l Bu Bt Bg W.heap.size W.heap.size (allY T a f u sun).length at_ nx u s.1 s.2 k J X E (allY T a f u sun) V hat hu ht rfl hJ (fun k W1 hk hj hs => Q.yield_wide (hY k W1 hk hj hs)) hys hEB hlB (by omega) (by omega) (Nat.le_refl _) h3 (by omega) (by omega) eBu (by omega) (by omega) hm.kb.size hm.bt hm.bg (kb_cell hm.kb zu (fun h => by rcases h with h | h; exact eBu h; simp only at h; omega)) hm.by_ hj)
  have rest : ∀ (V : World) (Bt Bg : Nat), W.heap.size < Bt → W.heap.size < Bg → Bt ≠ Bg → Below W1.heap.size W1 V → Boxed V Bt 3 (.int .i64 f) → Boxed V Bg 3 (.int .i64 sun) → K { tmps := #[.func (.yield l) #[] #[], bp Bf, bp Bs, bp Bu, bp Bb, bp Bc, bp W.heap.size, bp Bt, bp Bg, undef, undef, undef, .int .i64 f, .int .i64 sun, undef, undef, undef, undef, undef, undef, undef, undef, undef, undef, undef, undef, undef, undef, undef, undef, undef, undef, undef, undef, undef, undef, undef, undef, undef, undef, undef, undef, undef, undef, undef, undef, undef, undef, undef, undef], defers := [] } V := by
    intro V Bt Bg k1 k2 k3 hBV b1 b2
    have hm0 : Im W V E l W.heap.size Bt Bg f sun := ⟨Kb.of (bt HB1.out (hBV.mono (by omega))), b1, b2, below_cell hBV hyc⟩
    have HRD : Hid (∀ V' t g, Im W V' E l W.heap.size Bt Bg t g → Q.RdsWn V' len0 A T) := Lib.hid (fun V' t g h => kb_wn h.kb hR (by omega) (fun b hb he => by rcases he with he | he; exact eT b hb he; omega))
    have HCB : Hid (∀ V' t g, Im W V' E l W.heap.size Bt Bg t g → V'.cell? ⟨Bb, 0, none⟩ = some (.slice A T.length cap) ∧ V'.cell? ⟨Bc, 0, none⟩ = some (.int .i64 a) ∧ V'.cell? ⟨Bs, 0, none⟩ = some (.int .i64 sun) ∧ V'.cell? ⟨Bu, 0, none⟩ = some (.int .i64 u)) := Lib.hid (fun V' t g h => ⟨kb_cell h.kb zb (fun h => by rcases h with h | h; exact eBb h; simp only at h; omega), kb_cell h.kb zc (fun h => by rcases h with h | h; exact eBc h; simp only at h; omega), kb_cell h.kb zs (fun h => by rcases h with h | h; exact eBs h; simp only at h; omega), kb_cell h.kb zu (fun h => by rcases h with h | h; exact eBu h; simp only at h; omega)⟩)
    have HJ0 := Lib.hid (HJ.out _ _ _ h0 (bt HB1.out (hBV.mono (by omega)) : Below W.heap.size W V))
    have HS1 := Lib.hid (fun (i : Nat) x (h : T[i]? = some x) => stS_step (a := a) (u := u) (sun := sun) (s := (f, sun)) h)
    have HS2 := Lib.hid (fun (i : Nat) x (h : T[i]? = some x) => stY_step (a := a) (u := u) (sun := sun) (s := (f, sun)) h)
    have HAT1 := Lib.hid (fun (i : Nat) x (h : T[i]? = some x) => chg_at1 (a := a) (f := f) (u := u) (sun := sun) h)
    have HAT2 := Lib.hid (fun (i : Nat) x (h : T[i]? = some x) => chg_at2 (a := a) (f := f) (u := u) (sun := sun) h)
    have HAT3 : Hid (∀ (j : Nat) p, (chgY u (stS a u sun (f, sun) (T.take T.length)) u)[j]? = some p → (allY T a f u sun)[(stY a u sun (f, sun) (T.take T.length)).length + j]? = some p) := Lib.hid (by rw [List.take_length]; exact chg_at3)
    have HBD := Lib.hid (fun (i : Nat) (hi : i ≤ T.length) => st_bd hT hf hu i (a := a) (sun := sun))
    have HEND : Hid ((allY T a f u sun).length = (stY a u sun (f, sun) (T.take T.length)).length + (chgY u (stS a u sun (f, sun) (T.take T.length)) u).length) := Lib.hid (by rw [List.take_length]; unfold allY; rw [List.length_append])
    have HIM := Lib.hid hm0
    obtain ⟨m1, m2, m3, m4⟩ := HCB.out V f sun hm0
    refine hK _ _ ?_
    clear hK hm0 zf zs zu zb zc hR h0 hJ hEB b1 b2 hyc zf1 zs1 hbf hbs hbb hY eT eBf eBs eBu eBb eBc hBV
    generalize hlenT : T.length = len at *
    have HLEN := Lib.hid hlenT
    clear hlenT
    gi_wp2
    gi_loopw [17] (fun i wr => ∃ k : Nat, k ≤ len ∧ i = .int .i64 k ∧ Im W wr E l W.heap.size Bt Bg (stS a u sun (f, sun) (T.take k)).1 (stS a u sun (f, sun) (T.take k)).2 ∧ J (stY a u sun (f, sun) (T.take k)).length wr) (fun i _ => len - (intOf i).toNat)
    case atStart => exact ⟨0, Nat.zero_le _, rfl, HIM.out, HJ0.out⟩
    case round =>
      clear HIM HJ0 m1 m2 m3 m4
      obtain ⟨k, hk, rfl, hm, hj⟩ := hrel
      have HIM := Lib.hid hm
      have HJK := Lib.hid hj
      clear hj
      by_cases hlt : k < len
      · have hki : (k : Int) < (len : Int) := by omega
        have HLT := Lib.hid hlt
        obtain ⟨x, hx⟩ := HGET.out k hlt
        obtain ⟨ad, rfl, _, hr⟩ := HRD.out wr _ _ hm k x hx
        have c0 := hr.c0
        have c1 := hr.c1
        have c2 := hr.c2
        have c3 := hr.c3
        have c4 := hr.c4
        have c5 := hr.c5
        have tok := HTK.out x (List.mem_of_getElem? hx)
        have HBD1 := Lib.hid (HBD.out k hk)
        obtain ⟨V1, hV1⟩ : ∃ V1, V1 = wr.alloc (.cells #[.int .i64 x.kind, .int .i64 x.a, .int .i64 x.b, .int .i64 x.fr, .int .i64 x.un, .int .i64 x.rate] 77) := ⟨_, rfl⟩
        have HNX := Lib.hid (hV1 ▸ Q.Bx.new wr x 77 : Q.Bx V1 wr.heap.size x)
        have hm1 : Im W V1 E l W.heap.size Bt Bg (stS a u sun (f, sun) (T.take k)).1 (stS a u sun (f, sun) (T.take k)).2 := by rw [hV1]; exact hm.call (bel1 wr _)
        have HJ1 : Hid (J (stY a u sun (f, sun) (T.take k)).length V1) := Lib.hid (by rw [hV1]; exact HJ.out _ _ _ HJK.out ((bel1 wr _).mono hm.kb.size))
        obtain ⟨m1, m2, m3, m4⟩ := HCB.out V1 _ _ hm1
        obtain ⟨n0, n1, n2, n3, n4, n5⟩ : V1.cell? ⟨wr.heap.size, 0, none⟩ = some (.int .i64 x.kind) ∧ V1.cell? ⟨wr.heap.size, 1, none⟩ = some (.int .i64 x.a) ∧ V1.cell? ⟨wr.heap.size, 2, none⟩ = some (.int .i64 x.b) ∧ V1.cell? ⟨wr.heap.size, 3, none⟩ = some (.int .i64 x.fr) ∧ V1.cell? ⟨wr.heap.size, 4, none⟩ = some (.int .i64 x.un) ∧ V1.cell? ⟨wr.heap.size, 5, none⟩ = some (.int .i64 x.rate) := ⟨HNX.out.c0, HNX.out.c1, HNX.out.c2, HNX.out.c3, HNX.out.c4, HNX.out.c5⟩
        have HM1 := Lib.hid hm1
        have HV1 := Lib.hid hV1
        have HXX := Lib.hid hx
        have hfr := tok.fr
        have hun := tok.un
        have HSZ := Lib.hid hm.kb.size
        have HBTL := Lib.hid (And.intro hm.bt.lt hm.bg.lt)
        clear hr hx hlt hm hm1 tok
        gi_upto_region 6 with fail
        rw [← hV1]
        clear hV1 c0 c1 c2 c3 c4 c5
        by_cases he : x.kind = 3 ∧ x.a = a
        · have HE : Hid (ecl a x = true) := Lib.hid (decide_eq_true he)
          have HR1 : Hid (stS a u sun (f, sun) (T.take (k + 1)) = chgS u (chgS u (stS a u sun (f, sun) (T.take k)) x.fr 0) x.un sun) := Lib.hid (by rw [HS1.out k x HXX.out]; unfold wS; rw [if_pos HE.out])
          have HR2 : Hid ((stY a u sun (f, sun) (T.take (k + 1))).length = (stY a u sun (f, sun) (T.take k)).length + (chgY u (stS a u sun (f, sun) (T.take k)) x.fr).length + (chgY u (chgS u (stS a u sun (f, sun) (T.take k)) x.fr 0) x.un).length) := Lib.hid (by rw [HS2.out k x HXX.out]; unfold wY; rw [if_pos HE.out, List.length_append, List.length_append, Nat.add_assoc])
          have HF1 := Lib.hid (chgS_fst u (stS a u sun (f, sun) (T.take k)) x.fr 0)
          have HC1 := Lib.hid (HCH.out x.fr 0 (stS a u sun (f, sun) (T.take k)) (stY a u sun (f, sun) (T.take k)).length V1 Bt Bg (by omega) HBD1.out (HAT1.out k x HXX.out HE.out) k1 k2 k3 HM1.out HJ1.out)
          obtain ⟨h1, h2⟩ := he
          gi_wp2
          refine ⟨trivial, fun h => by simp [Fence.wide] at h, ?_⟩
          refine HC1.out.mono ?_
          rintro e W2 (⟨rfl, p1, p2, p3, p4⟩ | ⟨rfl, hX⟩)
          · have hk4 : Kb (fun b => E b ∨ b = l) W W2 := HM1.out.kb.low p4 (fun b hb h => by rcases h with h | h | h | h; exact .inl h; exact .inr h; omega; omega)
            have hy4 : W2.cell? ⟨W.heap.size, 0, none⟩ = some (.func (.yield l) #[] #[]) := kb_cell p4 HM1.out.by_ (fun h => by rcases h with h | h | h | h; exact absurd (HEB.out _ h) (by simp only; omega); simp only at h; omega; simp only at h; omega; simp only at h; omega)
            have hm2 : Im W W2 E l W.heap.size Bt Bg (chgS u (stS a u sun (f, sun) (T.take k)) x.fr 0).1 (chgS u (stS a u sun (f, sun) (T.take k)) x.fr 0).2 := ⟨hk4, p1, by rw [HF1.out.2]; exact p2, hy4⟩
            have hx4 : ∀ (i : Nat) v, V1.cell? ⟨wr.heap.size, i, none⟩ = some v → W2.cell? ⟨wr.heap.size, i, none⟩ = some v := fun i v h => kb_cell p4 h (fun h => by have := HBTL.out; have := HSZ.out; rcases h with h | h | h | h; exact absurd (HEB.out _ h) (by simp only; omega); simp only at h; omega; simp only at h; omega; simp only at h; omega)
            have v4 := hx4 _ _ n4
            obtain ⟨_, _, q3, _⟩ := HCB.out W2 _ _ hm2
            have HC2 := Lib.hid (HCH.out x.un sun (chgS u (stS a u sun (f, sun) (T.take k)) x.fr 0) ((stY a u sun (f, sun) (T.take k)).length + (chgY u (stS a u sun (f, sun) (T.take k)) x.fr).length) W2 Bt Bg (by omega) (by have := HF1.out.1; have := HBD1.out; omega) (HAT2.out k x HXX.out HE.out) k1 k2 k3 hm2 p3)
            have HF2 := Lib.hid (chgS_fst u (chgS u (stS a u sun (f, sun) (T.take k)) x.fr 0) x.un sun)
            have HM2 := Lib.hid hm2
            clear p1 p2 p3 p4 hk4 hy4 hm2 hx4 HC1 n0 n1 n2 n3 n4 n5 m1 m2 m3 m4
            gi_wp2
            refine ⟨trivial, fun h => by simp [Fence.wide] at h, ?_⟩
            refine HC2.out.mono ?_
            rintro e W3 (⟨rfl, p1, p2, p3, p4⟩ | ⟨rfl, hX⟩)
            · have hk5 : Kb (fun b => E b ∨ b = l) W W3 := HM2.out.kb.low p4 (fun b hb h => by rcases h with h | h | h | h; exact .inl h; exact .inr h; omega; omega)
              have hy5 : W3.cell? ⟨W.heap.size, 0, none⟩ = some (.func (.yield l) #[] #[]) := kb_cell p4 HM2.out.by_ (fun h => by rcases h with h | h | h | h; exact absurd (HEB.out _ h) (by simp only; omega); simp only at h; omega; simp only at h; omega; simp only at h; omega)
              have HM3 : Hid (Im W W3 E l W.heap.size Bt Bg (stS a u sun (f, sun) (T.take (k + 1))).1 (stS a u sun (f, sun) (T.take (k + 1))).2) := Lib.hid (by rw [HR1.out]; exact ⟨hk5, p1, by rw [HF2.out.2]; exact p2, hy5⟩)
              have HJ3 : Hid (J (stY a u sun (f, sun) (T.take (k + 1))).length W3) := Lib.hid (by rw [HR2.out]; exact p3)
              clear p1 p2 p3 p4 hk5 hy5 HC2 q3 v4
              gi_wp2
              go_roundw
              case rel => exact ⟨k + 1, by have := HLT.out; omega, by go_num, HM3.out, HJ3.out⟩
              case measure => simp [intOf]; have := HLT.out; omega
            · have HX3 := Lib.hid hX
              clear hX HC2 q3 v4
              gi_wp2
              refine bodyPost_ret (results_none rfl _ _ _) rfl ?_
              exact ⟨⟨_, rfl⟩, .inr HX3.out⟩
          · have HX2 := Lib.hid hX
            clear hX HC1 n0 n1 n2 n3 n4 n5 m1 m2 m3 m4
            gi_wp2
            refine ⟨fun _ h => (by cases h), ?_⟩
            gi_wp2
            refine bodyPost_ret (results_none rfl _ _ _) rfl ?_
            exact ⟨⟨_, rfl⟩, .inr HX2.out⟩
        · have HE : Hid (ecl a x = false) := Lib.hid (decide_eq_false he)
          have HR1 : Hid (stS a u sun (f, sun) (T.take (k + 1)) = stS a u sun (f, sun) (T.take k)) := Lib.hid (by rw [HS1.out k x HXX.out]; unfold wS; rw [if_neg (by rw [HE.out]; simp)])
          have HR2 : Hid (stY a u sun (f, sun) (T.take (k + 1)) = stY a u sun (f, sun) (T.take k)) := Lib.hid (by rw [HS2.out k x HXX.out]; unfold wY; rw [if_neg (by rw [HE.out]; simp), List.append_nil])
          by_cases h1 : x.kind = 3
          · have h2 : ¬ x.a = a := fun h => he ⟨h1, h⟩
            clear he
            have h2' : (x.a == a) = false := by simp [h2]
            gi_wp2
            all_goals (refine ⟨fun _ h => (by cases h), ?_⟩; gi_wp2)
            all_goals (first | (rename some undef = some (Value.bool _) => hh; simp [undef] at hh; done) | (refine ⟨fun _ h => (by cases h), ?_⟩; gi_wp2) | skip)
            go_roundw
            case rel => exact ⟨k + 1, by have := HLT.out; omega, by go_num, by rw [HR1.out]; exact HM1.out, by rw [HR2.out]; exact HJ1.out⟩
            case measure => simp [intOf]; have := HLT.out; omega
          · have h1' : (x.kind == 3) = false := by simp [h1]
            clear he
            gi_wp2
            all_goals (refine ⟨fun _ h => (by cases h), ?_⟩; gi_wp2)
            all_goals (first | (rename some undef = some (Value.bool _) => hh; simp [undef] at hh; done) | (refine ⟨fun _ h => (by cases h), ?_⟩; gi_wp2) | skip)
            go_roundw
            case rel => exact ⟨k + 1, by have := HLT.out; omega, by go_num, by rw [HR1.out]; exact HM1.out, by rw [HR2.out]; exact HJ1.out⟩
            case measure => simp [intOf]; have := HLT.out; omega
      · obtain rfl : k = len := by omega
        obtain ⟨m1, m2, m3, m4⟩ := HCB.out wr _ _ hm
        have HBD1 := Lib.hid (HBD.out k hk)
        have HC3 := Lib.hid (HCH.out u sun (stS a u sun (f, sun) (T.take k)) (stY a u sun (f, sun) (T.take k)).length wr Bt Bg hu HBD1.out HAT3.out k1 k2 k3 hm HJK.out)
        clear hlt hm
        gi_wp2
        refine ⟨trivial, fun h => by simp [Fence.wide] at h, ?_⟩
        refine HC3.out.mono ?_
        rintro e W2 (⟨rfl, p1, p2, p3, p4⟩ | ⟨rfl, hX⟩)
        · have HJE : Hid (J (allY T a f u sun).length W2) := Lib.hid (by rw [HEND.out]; exact p3)
          clear p1 p2 p3 p4 HC3 m1 m2 m3 m4
          gi_wp2
          go_end0
          exact ⟨⟨_, rfl⟩, .inl HJE.out⟩
        · have HX2 := Lib.hid hX
          clear hX HC3 m1 m2 m3 m4
          gi_wp2
          go_end0
          exact ⟨⟨_, rfl⟩, .inr HX2.out⟩
  clear hK
  have HREST := Lib.hid rest
  clear rest
  have hbf1 : Bf < W1.heap.size := by omega
  have hbs1 : Bs < W1.heap.size := by omega
  have zz0 : W1.drew.cell? ⟨Bf, 0, none⟩ = some (.int .i64 f) ∧ W1.drew.cell? ⟨Bs, 0, none⟩ = some (.int .i64 sun) := ⟨zf1, zs1⟩
  have zz1 : ∀ o : Obj, (W1.alloc o).drew.cell? ⟨Bf, 0, none⟩ = some (.int .i64 f) ∧ (W1.alloc o).drew.cell? ⟨Bs, 0, none⟩ = some (.int .i64 sun) := fun o => ⟨cell_under o zf1, cell_under o zs1⟩
  have zz2 : ∀ o p : Obj, ((W1.alloc o).alloc p).drew.cell? ⟨Bf, 0, none⟩ = some (.int .i64 f) ∧ ((W1.alloc o).alloc p).drew.cell? ⟨Bs, 0, none⟩ = some (.int .i64 sun) := fun o p => ⟨cell_under p (cell_under o zf1), cell_under p (cell_under o zs1)⟩
  have HZ1 := Lib.hid zz1
  have HZ2 := Lib.hid zz2
  clear zz1 zz2
  refine wpIn_wide.2 ?_
  go_region_held3 (fun V => V.cell? ⟨Bf, 0, none⟩ = some (.int .i64 f) ∧ V.cell? ⟨Bs, 0, none⟩ = some (.int .i64 sun)) (with_reducible (first | assumption | exact HZ1.out _ | exact HZ2.out _ _)) (fail)
  · have q1 := (Boxed.new W1 3 (.int .i64 f)).alloc (.cells #[.int .i64 sun] 3)
    have q2 := Boxed.new (W1.alloc (.cells #[.int .i64 f] 3)) 3 (.int .i64 sun)
    rw [hsz1] at q1
    rw [World.size_alloc, hsz1] at q2
    exact HREST.out _ _ _ (by omega) (by omega) (by omega) ((bel2 W1 _ _).drew) q1 q2
  · have q1 := (Boxed.new W1 3 (.int .i64 sun)).alloc (.cells #[.int .i64 f] 3)
    have q2 := Boxed.new (W1.alloc (.cells #[.int .i64 sun] 3)) 3 (.int .i64 f)
    rw [hsz1] at q1
    rw [World.size_alloc, hsz1] at q2
    exact HREST.out _ _ _ (by omega) (by omega) (by omega) ((bel2 W1 _ _).drew) q2 q1
end Pw
end Go.Proofs.Ytobbnbelacncjaa
