/-
  The landed iterator over hops.
-/
import Derived.Test.YtojflmejkigdiaaQRng
import Derived.Test.YtojflmejkigdiaaQAt
namespace Go.Proofs.Ytojflmejkigdiaa
open Go.RowKit Go.Shelf
attribute [local go_sem] Oper.semAt_some
namespace Q
open H
set_option linter.unusedVariables false
set_option linter.unusedSimpArgs false
set_option maxRecDepth 100000
/-- What is cells and no block of F lies as it lay. -/
structure Kc (F : Nat → Prop) (W W' : World) : Prop where
  size : W.heap.size ≤ W'.heap.size
  same : ∀ (b : Nat) (o : Obj), W.heap[b]? = some o → o.isCells = true → ¬ F b → W'.heap[b]? = some o
theorem Kc.refl (F : Nat → Prop) (W : World) : Kc F W W := ⟨Nat.le_refl _, fun _ _ h _ _ => h⟩
theorem Kc.trans {F : Nat → Prop} {A B C : World} (h : Kc F A B) (k : Kc F B C) : Kc F A C := ⟨Nat.le_trans h.size k.size, fun b o hb hc hf => k.same b o (h.same b o hb hc hf) hc hf⟩
theorem Kc.of {F : Nat → Prop} {A B : World} (h : Below A.heap.size A B) : Kc F A B := ⟨h.size, fun b o hb _ _ => heap_keep h hb⟩
theorem Kc.b {F : Nat → Prop} {n₀ : Nat} (W : World) (l : Nat) (o o' : Obj) (_ : n₀ ≤ l) (h : W.heap[l]? = some o) (ho : o.isCells = false) (_ : o.isWalk = false) : Kc F W (W.putObj l o') :=
  ⟨by simp, fun b o2 hb hc _ => (World.putObj_heap_other (fun e => by subst e; rw [h] at hb; obtain rfl := Option.some.inj hb; rw [ho] at hc; cases hc)).trans hb⟩
theorem Kc.set {F : Nat → Prop} {W : World} {b i : Nat} (v : Value) (hF : F b) : Kc F W (W.setCell ⟨b, i, none⟩ v) :=
  ⟨(KeepsWalks.setCell W _ v).size, fun k o hk _ hn => hoth v hk (fun e => hn (by rw [e]; exact hF))⟩
theorem Kc.cell {F : Nat → Prop} {A B : World} (h : Kc F A B) {p : Addr} {v : Value} (hp : A.cell? p = some v) (hf : ¬ F p.block) : B.cell? p = some v := by
  obtain ⟨o, ho, hc⟩ := cells_of_cell hp
  unfold World.cell? at hp ⊢
  rw [h.same _ _ ho hc hf]
  rw [ho] at hp
  exact hp
theorem Kc.own {β : Type} {F : Nat → Prop} {w : World} {B : Nat} : OwnFrom B (fun (_ : β) W => Kc F w W) := fun s W W' row h hg hr =>
  ⟨Nat.le_trans h.size hg.size, fun b o hb hc hf => heap_own (h.same b o hb hc hf) hc hg (fun r e => (hr r e).2)⟩
theorem Kc.rds {F : Nat → Prop} {w W : World} {B : Nat} {A : Option Addr} {T : List Wn} (h : Kc F w W) (hR : RdsWn w B A T) (hf : ∀ b, b < B → ¬ F b) : RdsWn W B A T := fun j x hx => by
  obtain ⟨ad, e, ha, hr⟩ := hR j x hx
  have hb : (ad.add (j * 6)).block < B := by rw [add_block]; exact ha
  exact ⟨ad, e, ha, h.cell hr.c0 (hf _ hb), h.cell hr.c1 (hf _ hb), h.cell hr.c2 (hf _ hb), h.cell hr.c3 (hf _ hb), h.cell hr.c4 (hf _ hb), h.cell hr.c5 (hf _ hb)⟩
theorem where_stopsC (n : Nat) (hn : 1 ≤ n) (Bt Ba : Nat) (A : Option Addr) (cap B : Nat) (T : List Wn) (p : Wn → Bool) (ag : Nat) (alb : Array Value) (F : Nat → Prop) (w : World)
    (eg : ∀ args w, (callFunc ag args).run Try.prog w = .ok (.enter ag args) w) (hlen : T.length ≤ 140737488351232)
    (hA : ∀ W, Kc F w W → ∀ x, x ∈ T → Calls Try.prog ag (#[x.v] ++ alb) W fun e W' => e = .returned (.bool (p x)) ∧ Below W.heap.size W W') (hT : Sb w Bt (.slice A T.length cap)) (fT : ¬ F Bt) (hF : Sb w Ba (.func (.func ag) #[] alb)) (fA : ¬ F Ba) (hR : RdsWn w B A T) (hf : ∀ b, b < B → ¬ F b) :
    SeqO Fence.wide n Try.prog 58 #[bp Bt, bp Ba] (fun x : El T p => #[x.1.v]) (Kc F) (fun ys => ys = all T p) (fun pre => pre <+: all T p) T.length w := fun l J Jx W hW hJ hJx hY h0 =>
  where1_in n hn l Bt Ba A cap T p ag alb B (Kc F w) (Kc F) (fun W V h hB => h.trans (Kc.of hB)) (fun W V h k => h.trans k) eg hlen hA J Jx _ (abides_of_own hJ) (fun pre x W1 hj hl => yield_less (hY pre x W1 hj hl)) W (Kc.of hW) (fun W h => h.cell hT fT) (fun W h => h.cell hF fA) (fun W h => h.rds hR hf) h0
/-- The hops. -/
structure Hp.Ok (h : Hp) : Prop where
  src : 0 ≤ h.src ∧ h.src < 12
  dst : 0 ≤ h.dst ∧ h.dst < 21
  w : Lok h.w
abbrev HpO : Type := { h : Hp // h.Ok }
def lkOk (x : Wn) : Bool := decide (lk x = true ∧ fm x = true)
theorem lkOk_ok {x : Wn} (h : lkOk x = true) : Lok x ∧ 0 ≤ far x ∧ far x < 21 := by
  simp only [lkOk, lk, fm, suits, decide_eq_true_eq] at h
  unfold far
  refine ⟨⟨by omega, by omega, by omega, by omega, by omega⟩, ?_⟩
  split <;> omega
def there (x : Wn) : Hp := ⟨x.a, far x, x⟩
def back (x : Wn) : Hp := ⟨far x, x.a, x⟩
theorem there_ok {x : Wn} (h : lkOk x = true) : (there x).Ok := ⟨(lkOk_ok h).1.a, (lkOk_ok h).2, (lkOk_ok h).1⟩
theorem back_ok {x : Wn} (h : lkOk x = true) (hf : far x < 12) : (back x).Ok := ⟨⟨(lkOk_ok h).2.1, hf⟩, ⟨(lkOk_ok h).1.a.1, by have := (lkOk_ok h).1.a.2; show x.a < 21; omega⟩, (lkOk_ok h).1⟩
def hopsE {T : List Wn} (x : El T lkOk) : List HpO := ⟨there x.1, there_ok x.2.2⟩ :: (if h : far x.1 < 12 then [⟨back x.1, back_ok x.2.2 h⟩] else [])
def hq {T : List Wn} (pre : List (El T lkOk)) : List HpO := pre.flatMap hopsE
def hopsL (T : List Wn) : List HpO := hq (all T lkOk)
theorem hq_snoc {T : List Wn} (pre : List (El T lkOk)) (x : El T lkOk) : hq (pre ++ [x]) = hq pre ++ hopsE x := by simp [hq]
theorem hopsE_len {T : List Wn} (x : El T lkOk) : (hopsE x).length ≤ 2 := by unfold hopsE; split <;> simp
theorem hq_len {T : List Wn} (pre : List (El T lkOk)) : (hq pre).length ≤ 2 * pre.length := by
  induction pre with
  | nil => simp [hq]
  | cons x l ih =>
    have h := hopsE_len x
    have e : hq (x :: l) = hopsE x ++ hq l := by simp [hq]
    rw [e, List.length_append, List.length_cons]
    omega
set_option maxHeartbeats 2000000 in
theorem hops_any (A : Option Addr) (len cap : Nat) (w : World) :
    Calls Try.prog 65 #[.slice A len cap] w fun e w' => e = .returned (.func (.func 85) #[] #[bp w.heap.size]) ∧ Sb w' w.heap.size (.slice A len cap) ∧ Below w.heap.size w w' ∧ w'.heap.size = w.heap.size + 1 := by
  go_enter Try.func65, Try.ntmps65
  go_wp2_with fail
  go_ret
  exact ⟨rfl, cell_top _ _ _ _, bel1 w _, by simp⟩
/-- A hop's box. -/
abbrev hcells (h : Hp) : Array Value := #[.int .i64 h.src, .int .i64 h.dst, .int .i64 h.w.kind, .int .i64 h.w.a, .int .i64 h.w.b, .int .i64 h.w.fr, .int .i64 h.w.un, .int .i64 h.w.rate]
def Hb (W : World) (b : Nat) (h : Hp) : Prop := W.heap[b]? = some (.cells (hcells h) 78 (0, 0))
theorem row8 {W : World} {b : Nat} {h : Hp} (hh : Hb W b h) : (W.cell? ⟨b, 0, none⟩ = some (.int .i64 h.src) ∧ W.cell? ⟨b, 1, none⟩ = some (.int .i64 h.dst) ∧ W.cell? ⟨b, 2, none⟩ = some (.int .i64 h.w.kind) ∧ W.cell? ⟨b, 3, none⟩ = some (.int .i64 h.w.a) ∧ W.cell? ⟨b, 4, none⟩ = some (.int .i64 h.w.b) ∧ W.cell? ⟨b, 5, none⟩ = some (.int .i64 h.w.fr) ∧ W.cell? ⟨b, 6, none⟩ = some (.int .i64 h.w.un) ∧ W.cell? ⟨b, 7, none⟩ = some (.int .i64 h.w.rate)) ∧ (W.frozen? ⟨b, 0, none⟩ = false ∧ W.frozen? ⟨b, 1, none⟩ = false ∧ W.frozen? ⟨b, 2, none⟩ = false ∧ W.frozen? ⟨b, 3, none⟩ = false ∧ W.frozen? ⟨b, 4, none⟩ = false ∧ W.frozen? ⟨b, 5, none⟩ = false ∧ W.frozen? ⟨b, 6, none⟩ = false ∧ W.frozen? ⟨b, 7, none⟩ = false) := by
  unfold Hb at hh
  simp [World.cell?, World.frozen?, hh]
def zh : Hp := ⟨0, 0, zw⟩
abbrev put8 (W : World) (b : Nat) (h : Hp) : World := ((((((((W.setCell ⟨b, 0, none⟩ (.int .i64 h.src)).setCell ⟨b, 1, none⟩ (.int .i64 h.dst)).setCell ⟨b, 2, none⟩ (.int .i64 h.w.kind)).setCell ⟨b, 3, none⟩ (.int .i64 h.w.a)).setCell ⟨b, 4, none⟩ (.int .i64 h.w.b)).setCell ⟨b, 5, none⟩ (.int .i64 h.w.fr)).setCell ⟨b, 6, none⟩ (.int .i64 h.w.un)).setCell ⟨b, 7, none⟩ (.int .i64 h.w.rate))
set_option maxHeartbeats 2000000 in
theorem Hb.put {W : World} {b : Nat} {y : Hp} (h : Hp) (hh : Hb W b y) : Hb (put8 W b h) b h := by
  have h6 := hset (i := 7) (.int .i64 h.w.rate) (hset (i := 6) (.int .i64 h.w.un) (hset (i := 5) (.int .i64 h.w.fr) (hset (i := 4) (.int .i64 h.w.b) (hset (i := 3) (.int .i64 h.w.a) (hset (i := 2) (.int .i64 h.w.kind) (hset (i := 1) (.int .i64 h.dst) (hset (i := 0) (.int .i64 h.src) hh)))))))
  simp only [List.setIfInBounds_toArray, List.set_cons_zero, List.set_cons_succ] at h6
  exact h6
theorem put8_oth {W : World} {b b' : Nat} {o : Obj} (x : Hp) (h : W.heap[b]? = some o) (hne : b ≠ b') : (put8 W b' x).heap[b]? = some o :=
  hoth _ (hoth _ (hoth _ (hoth _ (hoth _ (hoth _ (hoth _ (hoth _ h hne) hne) hne) hne) hne) hne) hne) hne
theorem put8_below {n₀ : Nat} {W : World} {b : Nat} (x : Hp) (hb : n₀ ≤ b) : Below n₀ W (put8 W b x) :=
  ((((((((Below.refl n₀ W).setCell (p := ⟨b, 0, none⟩) hb _).setCell (p := ⟨b, 1, none⟩) hb _).setCell (p := ⟨b, 2, none⟩) hb _).setCell (p := ⟨b, 3, none⟩) hb _).setCell (p := ⟨b, 4, none⟩) hb _).setCell (p := ⟨b, 5, none⟩) hb _).setCell (p := ⟨b, 6, none⟩) hb _).setCell (p := ⟨b, 7, none⟩) hb _
theorem Hb.call {W V : World} {b : Nat} {h : Hp} (hh : Hb W b h) (hB : Below W.heap.size W V) : Hb V b h := heap_keep hB hh
theorem Hb.new (W : World) (h : Hp) : Hb (W.alloc (.cells (hcells h) 78)) W.heap.size h := heap_top W _
theorem own_mono {β : Type} {B B' : Nat} {J : β → World → Prop} (h : OwnFrom B J) (hb : B ≤ B') : OwnFrom B' J := fun s W W' row hs hg hr => h s W W' row hs hg (fun r e => ⟨by have := (hr r e).1; omega, (hr r e).2⟩)
set_option maxHeartbeats 8000000 in
theorem hops_seq (n : Nat) (hn : 3 ≤ n) (Bt : Nat) (A : Option Addr) (cap B : Nat) (T : List Wn) (F : Nat → Prop) (w : World) (hlen : T.length ≤ 1000)
    (hT : Sb w Bt (.slice A T.length cap)) (fT : ¬ F Bt) (hR : RdsWn w B A T) (hf : ∀ b, b < B → ¬ F b) (hfl : ∀ b, F b → b < w.heap.size) :
    SeqO Fence.wide n Try.prog 85 #[bp Bt] (fun h : HpO => #[h.1.v]) (Kc F) (fun ys => ys = hopsL T) (fun _ => True) (2 * T.length) w := by
  intro l0 J Jx W00 hW hJ hJx hY h0
  have b1 := (Kc.of hW : Kc F w W00).cell hT fT
  obtain ⟨W1, hW1⟩ : ∃ W1, W1 = W00.alloc (.cells #[.func (.yield l0) #[] #[]] 95) := ⟨_, rfl⟩
  have hwh := where_any A T.length cap 86 #[] W1
  have z1 : Boxed W1 W00.heap.size 95 (.func (.yield l0) #[] #[]) := by rw [hW1]; exact Boxed.new _ _ _
  have hb1 : Below W00.heap.size W00 W1 := by rw [hW1]; exact bel1 _ _
  have hsz1 : W1.heap.size = W00.heap.size + 1 := by rw [hW1]; simp
  have HST := Lib.hid (fun (W : World) (hW0 : Below W1.heap.size W1 W) Bt' Ba hs1 hs2 (n1 : W1.heap.size ≤ Bt') (n2 : W1.heap.size ≤ Ba) => where_stopsC (n - 1) (by omega) Bt' Ba A cap B T lkOk 86 #[] F W (enters_of Try.func86 (by kernel_rfl) rfl) (by omega)
    (fun V _ x _ => plink_any x V) hs1 (fun h => by have := hfl _ h; have := hW.size; omega) hs2 (fun h => by have := hfl _ h; have := hW.size; omega) ((Kc.of (bt (bt hW hb1) hW0) : Kc F w W).rds hR hf) hf)
  have b2 := cell_under (.cells #[.func (.yield l0) #[] #[]] 95) b1
  clear b1
  have HWH := Lib.hid hwh
  have HW1 := Lib.hid hW1
  have HSZ1 := Lib.hid hsz1
  have HJ := Lib.hid hJ
  have HJX := Lib.hid hJx
  have HY := Lib.hid (fun pre x W1 hj hl => yield_wide (m' := n - 1 - 1 - 1) (hY pre x W1 hj hl))
  have HJ1 : Hid (J [] W1) := Lib.hid (own_below' hJ h0 hb1)
  have HWW := Lib.hid hW
  have HFL := Lib.hid hfl
  clear hwh hW1 hsz1 hJ hJx hY h0 hR hf hT fT
  generalize hl : T.length = len at *
  have HL := Lib.hid hl
  clear hl
  refine callsIn_of_wp_marks Try.func85 rfl trivial ?_ rfl
  simp only [Try.ntmps85, List.size_toArray, List.length_cons, List.length_nil, Nat.reduceAdd, Nat.reduceSub, Array.replicate_succ, Array.replicate_zero, List.push_toArray, List.append_toArray, List.nil_append, List.cons_append]
  gi_wp2_with (refine ⟨trivial, fun _ => by omega, ?_⟩; gi_at_call 33; rw [← HW1.out]; refine (callsIn_wide.2 HWH.out).mono ?_; rintro e W0 ⟨rfl, t1, t2, hB0, hsz0⟩; have HSZ0 := Lib.hid hsz0; clear hsz0; have HS := Lib.hid (HST.out W0 hB0 _ _ t1 t2 (by omega) (by omega)))
  have HB0 := Lib.hid hB0
  have y1 := heap_keep hB0 z1
  have HJ2 : Hid (J [] W0) := Lib.hid (own_below' HJ.out HJ1.out hB0)
  have hle0 : W00.heap.size ≤ W0.heap.size := Nat.le_trans hb1.size hB0.size
  have HK0 : Hid (Kc F w W0) := Lib.hid (Kc.of (bt (bt HWW.out hb1) hB0))
  have hle1 : w.heap.size ≤ W00.heap.size := HWW.out.size
  clear t1 t2 z1 hB0 hb1
  refine wpIn_rangeO rfl (by omega) (gf := 58) (lb := #[bp W1.heap.size, bp (W1.heap.size + 1)]) rfl trivial (enters_of Try.func58 (by kernel_rfl) rfl) HS.out Kc.trans Kc.b (Below.refl _ _) (fun _ => rfl)
    (fun pre W => (Boxed W W00.heap.size 95 (.func (.yield l0) #[] #[]) ∧ J (hq pre) W) ∧ (Kc F w W ∧ W0.heap.size ≤ W.heap.size))
    (fun c pre W => c = .ret ∧ ∃ q, Jx q W)
    (OwnFrom.and (OwnFrom.and (own_bx _ _ _) (fun s X Y row hs hg hr => HJ.out _ X Y row hs hg (fun r e => ⟨by have := (hr r e).1; omega, (hr r e).2⟩))) (OwnFrom.and Kc.own (fun _ _ _ _ hs hg _ => Nat.le_trans hs hg.size)))
    (fun c s X Y row hs hg hr => by obtain ⟨h1, q, h2⟩ := hs; exact ⟨h1, q, HJX.out q X Y row h2 hg (fun r e => ⟨by have := (hr r e).1; omega, (hr r e).2⟩)⟩)
    ⟨⟨y1, HJ2.out⟩, HK0.out, Nat.le_refl _⟩
    (fun x a' W => ∃ Bx, W0.heap.size ≤ Bx ∧ Wb W Bx x.1 ∧ a' = { tmps := #[.func (.yield l0) #[] #[], bp Bt, bp W00.heap.size, bp Bx, undef, undef, .slice A len cap, .func (.func 58) #[] #[bp W1.heap.size, bp (W1.heap.size + 1)], x.1.v, undef, undef, undef, undef, undef, undef, undef, undef, undef, undef, undef, undef, undef, undef, undef, undef, undef, undef, undef, undef, undef, undef, undef, undef, undef, undef, undef], defers := [] })
    (fun x a' _ X Y row hs hg hr => by obtain ⟨Bx, h1, h2, h3⟩ := hs; exact ⟨Bx, h1, heap_own h2 rfl hg (fun r e => (hr r e).2), h3⟩)
    ?assign ?body ?done ?stop
  case assign =>
    rintro l pre x W K ⟨⟨q1, q2⟩, q3, hge⟩ hK
    gi_wp2
    exact hK _ _ ((KeepsOthers.alloc _ _).from _) (Kc.of (bel1 W _)) ⟨⟨q1.alloc _, own_below' HJ.out q2 (bel1 W _)⟩, q3.trans (Kc.of (bel1 W _)), by simp; omega⟩ ⟨W.heap.size, hge, Wb.new W x.1, rfl⟩
  case body =>
    rintro l pre x a' W hl ⟨r, hr⟩ ⟨⟨q1, q2⟩, q3, hge⟩ ⟨Bx, hBx, N0, rfl⟩ hlt
    obtain ⟨hlok, hfar0, hfar1⟩ := lkOk_ok x.2.2
    have HQ1 := Lib.hid q1
    have HQ2 := Lib.hid q2
    have HQ3 := Lib.hid q3
    have HGE := Lib.hid hge
    have HFAR := Lib.hid (fun (V : World) => pfar_any x.1 V (by have := hlok.b; omega))
    have HSN := Lib.hid (hq_snoc pre x)
    have HE : Hid (hopsE x = ⟨there x.1, there_ok x.2.2⟩ :: (if h : far x.1 < 12 then [⟨back x.1, back_ok x.2.2 h⟩] else [])) := Lib.hid rfl
    have HPL := Lib.hid (hq_len pre)
    have HLT := Lib.hid hlt
    have hBW := hlt_of N0
    clear q1 q2 q3 hr hlt hlok hge
    obtain ⟨x, hx⟩ := x
    dsimp only at *
    have L0 : Below W.heap.size W W.drew := (Below.refl _ _).drew
    have M0 : Wb W.drew Bx x := N0
    gi_wp2
    refine wpIn_mono (Q := fun e a V => e = .normal ∧ ∃ b4 b5, a = { tmps := #[.func (.yield l0) #[] #[], bp Bt, bp W00.heap.size, bp Bx, bp b4, bp b5, .slice A len cap, .func (.func 58) #[] #[bp W1.heap.size, bp (W1.heap.size + 1)], x.v, .pointer (some ⟨Bx, 1, none⟩), .int .i64 x.a, x.v, .int .i64 (far x), x.v, .agg #[.int .i64 x.a, .int .i64 (far x), .int .i64 x.kind, .int .i64 x.a, .int .i64 x.b, .int .i64 x.fr, .int .i64 x.un, .int .i64 x.rate], x.v, .int .i64 (far x), .pointer (some ⟨Bx, 1, none⟩), .int .i64 x.a, x.v, .agg #[.int .i64 (far x), .int .i64 x.a, .int .i64 x.kind, .int .i64 x.a, .int .i64 x.b, .int .i64 x.fr, .int .i64 x.un, .int .i64 x.rate], undef, undef, undef, undef, undef, undef, undef, undef, undef, undef, undef, undef, undef, undef, undef], defers := [] } ∧ Below W.heap.size W V ∧ W.heap.size ≤ b5 ∧ Hb V b4 (there x) ∧ Hb V b5 (back x)) ?first ?rest
    case first =>
      refine wpIn_region_held_round (S := fun W' => W'.cell? ⟨Bx, 0, none⟩ = some (.int .i64 x.kind) ∧ W'.cell? ⟨Bx, 1, none⟩ = some (.int .i64 x.a) ∧ W'.cell? ⟨Bx, 2, none⟩ = some (.int .i64 x.b) ∧ W'.cell? ⟨Bx, 3, none⟩ = some (.int .i64 x.fr) ∧ W'.cell? ⟨Bx, 4, none⟩ = some (.int .i64 x.un) ∧ W'.cell? ⟨Bx, 5, none⟩ = some (.int .i64 x.rate)) (fun ⟨_, _, h⟩ => by cases h.1) rfl (by kernel_rfl) ⟨M0.bx.c0, M0.bx.c1, M0.bx.c2, M0.bx.c3, M0.bx.c4, M0.bx.c5⟩ (fun hHeld => ?_)
      refine wpAnyH_take (i := 0) (oi := { dst := some 9, op := _, type := _, pos := _, after := _, guard := _ }) (v := ?_) rfl (by kernel_rfl) (by kernel_rfl) (by kernel_rfl) (fun _ _ _ h => by cases h.1) (Or.inl ⟨by rfl, ?_⟩) (by assumption) ?_
      rotate_left
      · (intro w hSw; (try dsimp only at hSw); go_simp)
        first | done | with_reducible rfl
      try simp only [Act.put, List.setIfInBounds_toArray, List.set_cons_zero, List.set_cons_succ]
      refine wpAnyH_take (i := 1) (oi := { dst := some 10, op := _, type := _, pos := _, after := _, guard := _ }) (v := ?_) rfl (by kernel_rfl) (by kernel_rfl) (by kernel_rfl) (fun _ _ _ h => by cases h.1) (Or.inl ⟨by rfl, ?_⟩) (by assumption) ?_
      rotate_left
      · (intro w hSw; (try dsimp only at hSw); go_simp)
        first | done | with_reducible rfl
      try simp only [Act.put, List.setIfInBounds_toArray, List.set_cons_zero, List.set_cons_succ]
      refine wpAnyH_take (i := 2) (oi := { dst := some 11, op := _, type := _, pos := _, after := _, guard := _ }) (v := ?_) rfl (by kernel_rfl) (by kernel_rfl) (by kernel_rfl) (fun _ _ _ h => by cases h.1) (Or.inl ⟨by rfl, ?_⟩) (by assumption) ?_
      rotate_left
      · (intro w hSw; (try dsimp only at hSw); go_simp)
        first | done | with_reducible rfl
      try simp only [Act.put, List.setIfInBounds_toArray, List.set_cons_zero, List.set_cons_succ]
      refine wpAnyH_take (i := 4) (oi := { dst := some 13, op := _, type := _, pos := _, after := _, guard := _ }) (v := ?_) rfl (by kernel_rfl) (by kernel_rfl) (by kernel_rfl) (fun _ _ _ h => by cases h.1) (Or.inl ⟨by rfl, ?_⟩) (by assumption) ?_
      rotate_left
      · (intro w hSw; (try dsimp only at hSw); go_simp)
        first | done | with_reducible rfl
      try simp only [Act.put, List.setIfInBounds_toArray, List.set_cons_zero, List.set_cons_succ]
      refine wpAnyH_take (i := 6) (oi := { dst := some 15, op := _, type := _, pos := _, after := _, guard := _ }) (v := ?_) rfl (by kernel_rfl) (by kernel_rfl) (by kernel_rfl) (fun _ _ _ h => by cases h.1) (Or.inl ⟨by rfl, ?_⟩) (by assumption) ?_
      rotate_left
      · (intro w hSw; (try dsimp only at hSw); go_simp)
        first | done | with_reducible rfl
      try simp only [Act.put, List.setIfInBounds_toArray, List.set_cons_zero, List.set_cons_succ]
      refine wpAnyH_take (i := 8) (oi := { dst := some 17, op := _, type := _, pos := _, after := _, guard := _ }) (v := ?_) rfl (by kernel_rfl) (by kernel_rfl) (by kernel_rfl) (fun _ _ _ h => by cases h.1) (Or.inl ⟨by rfl, ?_⟩) (by assumption) ?_
      rotate_left
      · (intro w hSw; (try dsimp only at hSw); go_simp)
        first | done | with_reducible rfl
      try simp only [Act.put, List.setIfInBounds_toArray, List.set_cons_zero, List.set_cons_succ]
      refine wpAnyH_take (i := 9) (oi := { dst := some 18, op := _, type := _, pos := _, after := _, guard := _ }) (v := ?_) rfl (by kernel_rfl) (by kernel_rfl) (by kernel_rfl) (fun _ _ _ h => by cases h.1) (Or.inl ⟨by rfl, ?_⟩) (by assumption) ?_
      rotate_left
      · (intro w hSw; (try dsimp only at hSw); go_simp)
        first | done | with_reducible rfl
      try simp only [Act.put, List.setIfInBounds_toArray, List.set_cons_zero, List.set_cons_succ]
      refine wpAnyH_take (i := 10) (oi := { dst := some 19, op := _, type := _, pos := _, after := _, guard := _ }) (v := ?_) rfl (by kernel_rfl) (by kernel_rfl) (by kernel_rfl) (fun _ _ _ h => by cases h.1) (Or.inl ⟨by rfl, ?_⟩) (by assumption) ?_
      rotate_left
      · (intro w hSw; (try dsimp only at hSw); go_simp)
        first | done | with_reducible rfl
      try simp only [Act.put, List.setIfInBounds_toArray, List.set_cons_zero, List.set_cons_succ]
      refine wpAnyH_ready (rs := [3, 12, 13]) (by kernel_rfl) (by simp) ?_
      refine AllReadyH.cons (o := { dst := some 12, op := _, type := _, pos := _, after := _, guard := _ }) rfl (fun K hK => ?_) ?_
      · go_simp
        go_at_call 87; refine (HFAR.out _).mono ?_
        rintro r V1 ⟨rfl, hB1⟩
        go_wp2_with fail
        have L1 := bt L0 hB1
        have M1 : Wb V1 Bx x := heap_keep hB1 M0
        refine hK.out _ _ ⟨M1.bx.c0, M1.bx.c1, M1.bx.c2, M1.bx.c3, M1.bx.c4, M1.bx.c5⟩ (fun hH2 => ?_)
        clear hK K hHeld
        rename _ => hHeld
        try simp only [Act.put, List.setIfInBounds_toArray, List.set_cons_zero, List.set_cons_succ]
        refine wpAnyH_take (i := 5) (oi := { dst := some 14, op := _, type := _, pos := _, after := _, guard := _ }) (v := ?_) rfl (by kernel_rfl) (by kernel_rfl) (by kernel_rfl) (fun _ _ _ h => by cases h.1) (Or.inl ⟨by rfl, ?_⟩) (by assumption) ?_
        rotate_left
        · (intro w hSw; (try dsimp only at hSw); go_simp)
          first | done | with_reducible rfl
        try simp only [Act.put, List.setIfInBounds_toArray, List.set_cons_zero, List.set_cons_succ]
        refine wpAnyH_ready (rs := [7, 12, 13]) (by kernel_rfl) (by simp) ?_
        refine AllReadyH.cons (o := { dst := some 16, op := _, type := _, pos := _, after := _, guard := _ }) rfl (fun K hK => ?_) ?_
        · go_simp
          go_at_call 87; refine (HFAR.out _).mono ?_
          rintro r V2 ⟨rfl, hB2⟩
          go_wp2_with fail
          have L2 := bt L1 hB2
          have M2 : Wb V2 Bx x := heap_keep hB2 M1
          refine hK.out _ _ ⟨M2.bx.c0, M2.bx.c1, M2.bx.c2, M2.bx.c3, M2.bx.c4, M2.bx.c5⟩ (fun hH2 => ?_)
          clear hK K hHeld
          rename _ => hHeld
          try simp only [Act.put, List.setIfInBounds_toArray, List.set_cons_zero, List.set_cons_succ]
          refine wpAnyH_take (i := 11) (oi := { dst := some 20, op := _, type := _, pos := _, after := _, guard := _ }) (v := ?_) rfl (by kernel_rfl) (by kernel_rfl) (by kernel_rfl) (fun _ _ _ h => by cases h.1) (Or.inl ⟨by rfl, ?_⟩) (by assumption) ?_
          rotate_left
          · (intro w hSw; (try dsimp only at hSw); go_simp)
            first | done | with_reducible rfl
          try simp only [Act.put, List.setIfInBounds_toArray, List.set_cons_zero, List.set_cons_succ]
          refine wpAnyH_ready (rs := [12, 13]) (by kernel_rfl) (by simp) ?_
          refine AllReadyH.cons (o := { dst := some 4, op := _, type := _, pos := _, after := _, guard := _ }) rfl (fun K hK => ?_) ?_
          · go_simp
            obtain ⟨b12_3, hb12_3⟩ : ∃ b, b = V2.heap.size := ⟨_, rfl⟩
            obtain ⟨V3, hV3⟩ : ∃ V', V' = V2.alloc (.cells #[.int .i64 0, .int .i64 0, .int .i64 0, .int .i64 0, .int .i64 0, .int .i64 0, .int .i64 0, .int .i64 0] 78) := ⟨_, rfl⟩
            have hB3 : Below V2.heap.size V2 V3 := by rw [hV3]; exact bel1 _ _
            have X3 : Hb V3 b12_3 zh := by rw [hV3, hb12_3]; exact Hb.new V2 zh
            have hlb3 : W.heap.size ≤ b12_3 := by rw [hb12_3]; exact (L2).size
            have L3 := bt L2 hB3
            have M3 : Wb V3 Bx x := heap_keep hB3 M2
            change K _ (V2.alloc (.cells #[.int .i64 0, .int .i64 0, .int .i64 0, .int .i64 0, .int .i64 0, .int .i64 0, .int .i64 0, .int .i64 0] 78))
            rw [← hV3]
            first | (rw [← hb12_3]) | (rw [show W.heap.size = b12_3 from hb12_3.symm])
            clear hV3 hb12_3
            refine hK.out _ _ ⟨M3.bx.c0, M3.bx.c1, M3.bx.c2, M3.bx.c3, M3.bx.c4, M3.bx.c5⟩ (fun hH2 => ?_)
            clear hK K hHeld
            rename _ => hHeld
            try simp only [Act.put, List.setIfInBounds_toArray, List.set_cons_zero, List.set_cons_succ]
            refine wpAnyH_ready (rs := [13]) (by kernel_rfl) (by simp) ?_
            refine AllReadyH.cons (o := { dst := some 5, op := _, type := _, pos := _, after := _, guard := _ }) rfl (fun K hK => ?_) AllReadyH.nil
            go_simp
            obtain ⟨b13_4, hb13_4⟩ : ∃ b, b = V3.heap.size := ⟨_, rfl⟩
            obtain ⟨V4, hV4⟩ : ∃ V', V' = V3.alloc (.cells #[.int .i64 0, .int .i64 0, .int .i64 0, .int .i64 0, .int .i64 0, .int .i64 0, .int .i64 0, .int .i64 0] 78) := ⟨_, rfl⟩
            have hB4 : Below V3.heap.size V3 V4 := by rw [hV4]; exact bel1 _ _
            have X4 : Hb V4 b13_4 zh := by rw [hV4, hb13_4]; exact Hb.new V3 zh
            have hlb4 : W.heap.size ≤ b13_4 := by rw [hb13_4]; exact (L3).size
            have L4 := bt L3 hB4
            have M4 : Wb V4 Bx x := heap_keep hB4 M3
            have Y4a := Hb.call X3 hB4
            have hne4 : b12_3 ≠ b13_4 := by have := hlt_of X3; omega
            change K _ (V3.alloc (.cells #[.int .i64 0, .int .i64 0, .int .i64 0, .int .i64 0, .int .i64 0, .int .i64 0, .int .i64 0, .int .i64 0] 78))
            rw [← hV4]
            first | (rw [← hb13_4]) | (rw [show W.heap.size = b13_4 from hb13_4.symm])
            clear hV4 hb13_4
            refine hK.out _ _ ⟨M4.bx.c0, M4.bx.c1, M4.bx.c2, M4.bx.c3, M4.bx.c4, M4.bx.c5⟩ (fun hH2 => ?_)
            clear hK K hHeld
            rename _ => hHeld
            try simp only [Act.put, List.setIfInBounds_toArray, List.set_cons_zero, List.set_cons_succ]
            refine wpAnyH_ready (rs := [14]) (by kernel_rfl) (by simp) ?_
            refine AllReadyH.cons (o := { dst := none, op := _, type := _, pos := _, after := _, guard := _ }) rfl (fun K hK => ?_) AllReadyH.nil
            obtain ⟨⟨n0, n1, n2, n3, n4, n5, n6, n7⟩, f0, f1, f2, f3, f4, f5, f6, f7⟩ := row8 Y4a
            go_simp
            obtain ⟨V5, hV5⟩ : ∃ V', V' = put8 V4 b12_3 (there x) := ⟨_, rfl⟩
            change K _ (put8 V4 b12_3 (there x))
            rw [← hV5]
            have L5 : Below W.heap.size W V5 := by rw [hV5]; exact (L4).trans (put8_below (there x) (by omega))
            have M5 : Wb V5 Bx x := by rw [hV5]; exact put8_oth (there x) M4 (by omega)
            have Y5a : Hb V5 b12_3 (there x) := by rw [hV5]; exact Y4a.put (there x)
            have Y5b : Hb V5 b13_4 (zh) := by rw [hV5]; exact put8_oth (there x) X4 (by omega)
            clear hV5 n0 n1 n2 n3 n4 n5 n6 n7 f0 f1 f2 f3 f4 f5 f6 f7
            refine hK.out _ _ ⟨M5.bx.c0, M5.bx.c1, M5.bx.c2, M5.bx.c3, M5.bx.c4, M5.bx.c5⟩ (fun hH2 => ?_)
            clear hK K hHeld
            rename _ => hHeld
            try simp only [Act.put, List.setIfInBounds_toArray, List.set_cons_zero, List.set_cons_succ]
            refine wpAnyH_ready (rs := [15]) (by kernel_rfl) (by simp) ?_
            refine AllReadyH.cons (o := { dst := none, op := _, type := _, pos := _, after := _, guard := _ }) rfl (fun K hK => ?_) AllReadyH.nil
            obtain ⟨⟨n0, n1, n2, n3, n4, n5, n6, n7⟩, f0, f1, f2, f3, f4, f5, f6, f7⟩ := row8 Y5b
            go_simp
            obtain ⟨V6, hV6⟩ : ∃ V', V' = put8 V5 b13_4 (back x) := ⟨_, rfl⟩
            change K _ (put8 V5 b13_4 (back x))
            rw [← hV6]
            have L6 : Below W.heap.size W V6 := by rw [hV6]; exact (L5).trans (put8_below (back x) (by omega))
            have M6 : Wb V6 Bx x := by rw [hV6]; exact put8_oth (back x) M5 (by omega)
            have Y6a : Hb V6 b12_3 (there x) := by rw [hV6]; exact put8_oth (back x) Y5a (by omega)
            have Y6b : Hb V6 b13_4 (back x) := by rw [hV6]; exact Y5b.put (back x)
            clear hV6 n0 n1 n2 n3 n4 n5 n6 n7 f0 f1 f2 f3 f4 f5 f6 f7
            refine hK.out _ _ ⟨M6.bx.c0, M6.bx.c1, M6.bx.c2, M6.bx.c3, M6.bx.c4, M6.bx.c5⟩ (fun hH2 => ?_)
            clear hK K hHeld
            rename _ => hHeld
            try simp only [Act.put, List.setIfInBounds_toArray, List.set_cons_zero, List.set_cons_succ]
            refine wpAnyH_done (by kernel_rfl) ?_ _
            exact ⟨rfl, b12_3, b13_4, rfl, L6, by assumption, Y6a, Y6b⟩
          refine AllReadyH.cons (o := { dst := some 5, op := _, type := _, pos := _, after := _, guard := _ }) rfl (fun K hK => ?_) AllReadyH.nil
          go_simp
          obtain ⟨b13_7, hb13_7⟩ : ∃ b, b = V2.heap.size := ⟨_, rfl⟩
          obtain ⟨V7, hV7⟩ : ∃ V', V' = V2.alloc (.cells #[.int .i64 0, .int .i64 0, .int .i64 0, .int .i64 0, .int .i64 0, .int .i64 0, .int .i64 0, .int .i64 0] 78) := ⟨_, rfl⟩
          have hB7 : Below V2.heap.size V2 V7 := by rw [hV7]; exact bel1 _ _
          have X7 : Hb V7 b13_7 zh := by rw [hV7, hb13_7]; exact Hb.new V2 zh
          have hlb7 : W.heap.size ≤ b13_7 := by rw [hb13_7]; exact (L2).size
          have L7 := bt L2 hB7
          have M7 : Wb V7 Bx x := heap_keep hB7 M2
          change K _ (V2.alloc (.cells #[.int .i64 0, .int .i64 0, .int .i64 0, .int .i64 0, .int .i64 0, .int .i64 0, .int .i64 0, .int .i64 0] 78))
          rw [← hV7]
          first | (rw [← hb13_7]) | (rw [show W.heap.size = b13_7 from hb13_7.symm])
          clear hV7 hb13_7
          refine hK.out _ _ ⟨M7.bx.c0, M7.bx.c1, M7.bx.c2, M7.bx.c3, M7.bx.c4, M7.bx.c5⟩ (fun hH2 => ?_)
          clear hK K hHeld
          rename _ => hHeld
          try simp only [Act.put, List.setIfInBounds_toArray, List.set_cons_zero, List.set_cons_succ]
          refine wpAnyH_ready (rs := [12]) (by kernel_rfl) (by simp) ?_
          refine AllReadyH.cons (o := { dst := some 4, op := _, type := _, pos := _, after := _, guard := _ }) rfl (fun K hK => ?_) AllReadyH.nil
          go_simp
          obtain ⟨b12_8, hb12_8⟩ : ∃ b, b = V7.heap.size := ⟨_, rfl⟩
          obtain ⟨V8, hV8⟩ : ∃ V', V' = V7.alloc (.cells #[.int .i64 0, .int .i64 0, .int .i64 0, .int .i64 0, .int .i64 0, .int .i64 0, .int .i64 0, .int .i64 0] 78) := ⟨_, rfl⟩
          have hB8 : Below V7.heap.size V7 V8 := by rw [hV8]; exact bel1 _ _
          have X8 : Hb V8 b12_8 zh := by rw [hV8, hb12_8]; exact Hb.new V7 zh
          have hlb8 : W.heap.size ≤ b12_8 := by rw [hb12_8]; exact (L7).size
          have L8 := bt L7 hB8
          have M8 : Wb V8 Bx x := heap_keep hB8 M7
          have Y8b := Hb.call X7 hB8
          have hne8 : b12_8 ≠ b13_7 := by have := hlt_of X7; omega
          change K _ (V7.alloc (.cells #[.int .i64 0, .int .i64 0, .int .i64 0, .int .i64 0, .int .i64 0, .int .i64 0, .int .i64 0, .int .i64 0] 78))
          rw [← hV8]
          first | (rw [← hb12_8]) | (rw [show W.heap.size = b12_8 from hb12_8.symm])
          clear hV8 hb12_8
          refine hK.out _ _ ⟨M8.bx.c0, M8.bx.c1, M8.bx.c2, M8.bx.c3, M8.bx.c4, M8.bx.c5⟩ (fun hH2 => ?_)
          clear hK K hHeld
          rename _ => hHeld
          try simp only [Act.put, List.setIfInBounds_toArray, List.set_cons_zero, List.set_cons_succ]
          refine wpAnyH_ready (rs := [14]) (by kernel_rfl) (by simp) ?_
          refine AllReadyH.cons (o := { dst := none, op := _, type := _, pos := _, after := _, guard := _ }) rfl (fun K hK => ?_) AllReadyH.nil
          obtain ⟨⟨n0, n1, n2, n3, n4, n5, n6, n7⟩, f0, f1, f2, f3, f4, f5, f6, f7⟩ := row8 X8
          go_simp
          obtain ⟨V9, hV9⟩ : ∃ V', V' = put8 V8 b12_8 (there x) := ⟨_, rfl⟩
          change K _ (put8 V8 b12_8 (there x))
          rw [← hV9]
          have L9 : Below W.heap.size W V9 := by rw [hV9]; exact (L8).trans (put8_below (there x) (by omega))
          have M9 : Wb V9 Bx x := by rw [hV9]; exact put8_oth (there x) M8 (by omega)
          have Y9a : Hb V9 b12_8 (there x) := by rw [hV9]; exact X8.put (there x)
          have Y9b : Hb V9 b13_7 (zh) := by rw [hV9]; exact put8_oth (there x) Y8b (by omega)
          clear hV9 n0 n1 n2 n3 n4 n5 n6 n7 f0 f1 f2 f3 f4 f5 f6 f7
          refine hK.out _ _ ⟨M9.bx.c0, M9.bx.c1, M9.bx.c2, M9.bx.c3, M9.bx.c4, M9.bx.c5⟩ (fun hH2 => ?_)
          clear hK K hHeld
          rename _ => hHeld
          try simp only [Act.put, List.setIfInBounds_toArray, List.set_cons_zero, List.set_cons_succ]
          refine wpAnyH_ready (rs := [15]) (by kernel_rfl) (by simp) ?_
          refine AllReadyH.cons (o := { dst := none, op := _, type := _, pos := _, after := _, guard := _ }) rfl (fun K hK => ?_) AllReadyH.nil
          obtain ⟨⟨n0, n1, n2, n3, n4, n5, n6, n7⟩, f0, f1, f2, f3, f4, f5, f6, f7⟩ := row8 Y9b
          go_simp
          obtain ⟨V10, hV10⟩ : ∃ V', V' = put8 V9 b13_7 (back x) := ⟨_, rfl⟩
          change K _ (put8 V9 b13_7 (back x))
          rw [← hV10]
          have L10 : Below W.heap.size W V10 := by rw [hV10]; exact (L9).trans (put8_below (back x) (by omega))
          have M10 : Wb V10 Bx x := by rw [hV10]; exact put8_oth (back x) M9 (by omega)
          have Y10a : Hb V10 b12_8 (there x) := by rw [hV10]; exact put8_oth (back x) Y9a (by omega)
          have Y10b : Hb V10 b13_7 (back x) := by rw [hV10]; exact Y9b.put (back x)
          clear hV10 n0 n1 n2 n3 n4 n5 n6 n7 f0 f1 f2 f3 f4 f5 f6 f7
          refine hK.out _ _ ⟨M10.bx.c0, M10.bx.c1, M10.bx.c2, M10.bx.c3, M10.bx.c4, M10.bx.c5⟩ (fun hH2 => ?_)
          clear hK K hHeld
          rename _ => hHeld
          try simp only [Act.put, List.setIfInBounds_toArray, List.set_cons_zero, List.set_cons_succ]
          refine wpAnyH_done (by kernel_rfl) ?_ _
          exact ⟨rfl, b12_8, b13_7, rfl, L10, by assumption, Y10a, Y10b⟩
        refine AllReadyH.cons (o := { dst := some 4, op := _, type := _, pos := _, after := _, guard := _ }) rfl (fun K hK => ?_) ?_
        · go_simp
          obtain ⟨b12_11, hb12_11⟩ : ∃ b, b = V1.heap.size := ⟨_, rfl⟩
          obtain ⟨V11, hV11⟩ : ∃ V', V' = V1.alloc (.cells #[.int .i64 0, .int .i64 0, .int .i64 0, .int .i64 0, .int .i64 0, .int .i64 0, .int .i64 0, .int .i64 0] 78) := ⟨_, rfl⟩
          have hB11 : Below V1.heap.size V1 V11 := by rw [hV11]; exact bel1 _ _
          have X11 : Hb V11 b12_11 zh := by rw [hV11, hb12_11]; exact Hb.new V1 zh
          have hlb11 : W.heap.size ≤ b12_11 := by rw [hb12_11]; exact (L1).size
          have L11 := bt L1 hB11
          have M11 : Wb V11 Bx x := heap_keep hB11 M1
          change K _ (V1.alloc (.cells #[.int .i64 0, .int .i64 0, .int .i64 0, .int .i64 0, .int .i64 0, .int .i64 0, .int .i64 0, .int .i64 0] 78))
          rw [← hV11]
          first | (rw [← hb12_11]) | (rw [show W.heap.size = b12_11 from hb12_11.symm])
          clear hV11 hb12_11
          refine hK.out _ _ ⟨M11.bx.c0, M11.bx.c1, M11.bx.c2, M11.bx.c3, M11.bx.c4, M11.bx.c5⟩ (fun hH2 => ?_)
          clear hK K hHeld
          rename _ => hHeld
          try simp only [Act.put, List.setIfInBounds_toArray, List.set_cons_zero, List.set_cons_succ]
          refine wpAnyH_ready (rs := [7, 13]) (by kernel_rfl) (by simp) ?_
          refine AllReadyH.cons (o := { dst := some 16, op := _, type := _, pos := _, after := _, guard := _ }) rfl (fun K hK => ?_) ?_
          · go_simp
            go_at_call 87; refine (HFAR.out _).mono ?_
            rintro r V12 ⟨rfl, hB12⟩
            go_wp2_with fail
            have L12 := bt L11 hB12
            have M12 : Wb V12 Bx x := heap_keep hB12 M11
            have Y12a := Hb.call X11 hB12
            refine hK.out _ _ ⟨M12.bx.c0, M12.bx.c1, M12.bx.c2, M12.bx.c3, M12.bx.c4, M12.bx.c5⟩ (fun hH2 => ?_)
            clear hK K hHeld
            rename _ => hHeld
            try simp only [Act.put, List.setIfInBounds_toArray, List.set_cons_zero, List.set_cons_succ]
            refine wpAnyH_take (i := 11) (oi := { dst := some 20, op := _, type := _, pos := _, after := _, guard := _ }) (v := ?_) rfl (by kernel_rfl) (by kernel_rfl) (by kernel_rfl) (fun _ _ _ h => by cases h.1) (Or.inl ⟨by rfl, ?_⟩) (by assumption) ?_
            rotate_left
            · (intro w hSw; (try dsimp only at hSw); go_simp)
              first | done | with_reducible rfl
            try simp only [Act.put, List.setIfInBounds_toArray, List.set_cons_zero, List.set_cons_succ]
            refine wpAnyH_ready (rs := [13]) (by kernel_rfl) (by simp) ?_
            refine AllReadyH.cons (o := { dst := some 5, op := _, type := _, pos := _, after := _, guard := _ }) rfl (fun K hK => ?_) AllReadyH.nil
            go_simp
            obtain ⟨b13_13, hb13_13⟩ : ∃ b, b = V12.heap.size := ⟨_, rfl⟩
            obtain ⟨V13, hV13⟩ : ∃ V', V' = V12.alloc (.cells #[.int .i64 0, .int .i64 0, .int .i64 0, .int .i64 0, .int .i64 0, .int .i64 0, .int .i64 0, .int .i64 0] 78) := ⟨_, rfl⟩
            have hB13 : Below V12.heap.size V12 V13 := by rw [hV13]; exact bel1 _ _
            have X13 : Hb V13 b13_13 zh := by rw [hV13, hb13_13]; exact Hb.new V12 zh
            have hlb13 : W.heap.size ≤ b13_13 := by rw [hb13_13]; exact (L12).size
            have L13 := bt L12 hB13
            have M13 : Wb V13 Bx x := heap_keep hB13 M12
            have Y13a := Hb.call Y12a hB13
            have hne13 : b12_11 ≠ b13_13 := by have := hlt_of Y12a; omega
            change K _ (V12.alloc (.cells #[.int .i64 0, .int .i64 0, .int .i64 0, .int .i64 0, .int .i64 0, .int .i64 0, .int .i64 0, .int .i64 0] 78))
            rw [← hV13]
            first | (rw [← hb13_13]) | (rw [show W.heap.size = b13_13 from hb13_13.symm])
            clear hV13 hb13_13
            refine hK.out _ _ ⟨M13.bx.c0, M13.bx.c1, M13.bx.c2, M13.bx.c3, M13.bx.c4, M13.bx.c5⟩ (fun hH2 => ?_)
            clear hK K hHeld
            rename _ => hHeld
            try simp only [Act.put, List.setIfInBounds_toArray, List.set_cons_zero, List.set_cons_succ]
            refine wpAnyH_ready (rs := [14]) (by kernel_rfl) (by simp) ?_
            refine AllReadyH.cons (o := { dst := none, op := _, type := _, pos := _, after := _, guard := _ }) rfl (fun K hK => ?_) AllReadyH.nil
            obtain ⟨⟨n0, n1, n2, n3, n4, n5, n6, n7⟩, f0, f1, f2, f3, f4, f5, f6, f7⟩ := row8 Y13a
            go_simp
            obtain ⟨V14, hV14⟩ : ∃ V', V' = put8 V13 b12_11 (there x) := ⟨_, rfl⟩
            change K _ (put8 V13 b12_11 (there x))
            rw [← hV14]
            have L14 : Below W.heap.size W V14 := by rw [hV14]; exact (L13).trans (put8_below (there x) (by omega))
            have M14 : Wb V14 Bx x := by rw [hV14]; exact put8_oth (there x) M13 (by omega)
            have Y14a : Hb V14 b12_11 (there x) := by rw [hV14]; exact Y13a.put (there x)
            have Y14b : Hb V14 b13_13 (zh) := by rw [hV14]; exact put8_oth (there x) X13 (by omega)
            clear hV14 n0 n1 n2 n3 n4 n5 n6 n7 f0 f1 f2 f3 f4 f5 f6 f7
            refine hK.out _ _ ⟨M14.bx.c0, M14.bx.c1, M14.bx.c2, M14.bx.c3, M14.bx.c4, M14.bx.c5⟩ (fun hH2 => ?_)
            clear hK K hHeld
            rename _ => hHeld
            try simp only [Act.put, List.setIfInBounds_toArray, List.set_cons_zero, List.set_cons_succ]
            refine wpAnyH_ready (rs := [15]) (by kernel_rfl) (by simp) ?_
            refine AllReadyH.cons (o := { dst := none, op := _, type := _, pos := _, after := _, guard := _ }) rfl (fun K hK => ?_) AllReadyH.nil
            obtain ⟨⟨n0, n1, n2, n3, n4, n5, n6, n7⟩, f0, f1, f2, f3, f4, f5, f6, f7⟩ := row8 Y14b
            go_simp
            obtain ⟨V15, hV15⟩ : ∃ V', V' = put8 V14 b13_13 (back x) := ⟨_, rfl⟩
            change K _ (put8 V14 b13_13 (back x))
            rw [← hV15]
            have L15 : Below W.heap.size W V15 := by rw [hV15]; exact (L14).trans (put8_below (back x) (by omega))
            have M15 : Wb V15 Bx x := by rw [hV15]; exact put8_oth (back x) M14 (by omega)
            have Y15a : Hb V15 b12_11 (there x) := by rw [hV15]; exact put8_oth (back x) Y14a (by omega)
            have Y15b : Hb V15 b13_13 (back x) := by rw [hV15]; exact Y14b.put (back x)
            clear hV15 n0 n1 n2 n3 n4 n5 n6 n7 f0 f1 f2 f3 f4 f5 f6 f7
            refine hK.out _ _ ⟨M15.bx.c0, M15.bx.c1, M15.bx.c2, M15.bx.c3, M15.bx.c4, M15.bx.c5⟩ (fun hH2 => ?_)
            clear hK K hHeld
            rename _ => hHeld
            try simp only [Act.put, List.setIfInBounds_toArray, List.set_cons_zero, List.set_cons_succ]
            refine wpAnyH_done (by kernel_rfl) ?_ _
            exact ⟨rfl, b12_11, b13_13, rfl, L15, by assumption, Y15a, Y15b⟩
          refine AllReadyH.cons (o := { dst := some 5, op := _, type := _, pos := _, after := _, guard := _ }) rfl (fun K hK => ?_) AllReadyH.nil
          go_simp
          obtain ⟨b13_16, hb13_16⟩ : ∃ b, b = V11.heap.size := ⟨_, rfl⟩
          obtain ⟨V16, hV16⟩ : ∃ V', V' = V11.alloc (.cells #[.int .i64 0, .int .i64 0, .int .i64 0, .int .i64 0, .int .i64 0, .int .i64 0, .int .i64 0, .int .i64 0] 78) := ⟨_, rfl⟩
          have hB16 : Below V11.heap.size V11 V16 := by rw [hV16]; exact bel1 _ _
          have X16 : Hb V16 b13_16 zh := by rw [hV16, hb13_16]; exact Hb.new V11 zh
          have hlb16 : W.heap.size ≤ b13_16 := by rw [hb13_16]; exact (L11).size
          have L16 := bt L11 hB16
          have M16 : Wb V16 Bx x := heap_keep hB16 M11
          have Y16a := Hb.call X11 hB16
          have hne16 : b12_11 ≠ b13_16 := by have := hlt_of X11; omega
          change K _ (V11.alloc (.cells #[.int .i64 0, .int .i64 0, .int .i64 0, .int .i64 0, .int .i64 0, .int .i64 0, .int .i64 0, .int .i64 0] 78))
          rw [← hV16]
          first | (rw [← hb13_16]) | (rw [show W.heap.size = b13_16 from hb13_16.symm])
          clear hV16 hb13_16
          refine hK.out _ _ ⟨M16.bx.c0, M16.bx.c1, M16.bx.c2, M16.bx.c3, M16.bx.c4, M16.bx.c5⟩ (fun hH2 => ?_)
          clear hK K hHeld
          rename _ => hHeld
          try simp only [Act.put, List.setIfInBounds_toArray, List.set_cons_zero, List.set_cons_succ]
          refine wpAnyH_ready (rs := [7]) (by kernel_rfl) (by simp) ?_
          refine AllReadyH.cons (o := { dst := some 16, op := _, type := _, pos := _, after := _, guard := _ }) rfl (fun K hK => ?_) AllReadyH.nil
          go_simp
          go_at_call 87; refine (HFAR.out _).mono ?_
          rintro r V17 ⟨rfl, hB17⟩
          go_wp2_with fail
          have L17 := bt L16 hB17
          have M17 : Wb V17 Bx x := heap_keep hB17 M16
          have Y17a := Hb.call Y16a hB17
          have Y17b := Hb.call X16 hB17
          refine hK.out _ _ ⟨M17.bx.c0, M17.bx.c1, M17.bx.c2, M17.bx.c3, M17.bx.c4, M17.bx.c5⟩ (fun hH2 => ?_)
          clear hK K hHeld
          rename _ => hHeld
          try simp only [Act.put, List.setIfInBounds_toArray, List.set_cons_zero, List.set_cons_succ]
          refine wpAnyH_take (i := 11) (oi := { dst := some 20, op := _, type := _, pos := _, after := _, guard := _ }) (v := ?_) rfl (by kernel_rfl) (by kernel_rfl) (by kernel_rfl) (fun _ _ _ h => by cases h.1) (Or.inl ⟨by rfl, ?_⟩) (by assumption) ?_
          rotate_left
          · (intro w hSw; (try dsimp only at hSw); go_simp)
            first | done | with_reducible rfl
          try simp only [Act.put, List.setIfInBounds_toArray, List.set_cons_zero, List.set_cons_succ]
          refine wpAnyH_ready (rs := [14]) (by kernel_rfl) (by simp) ?_
          refine AllReadyH.cons (o := { dst := none, op := _, type := _, pos := _, after := _, guard := _ }) rfl (fun K hK => ?_) AllReadyH.nil
          obtain ⟨⟨n0, n1, n2, n3, n4, n5, n6, n7⟩, f0, f1, f2, f3, f4, f5, f6, f7⟩ := row8 Y17a
          go_simp
          obtain ⟨V18, hV18⟩ : ∃ V', V' = put8 V17 b12_11 (there x) := ⟨_, rfl⟩
          change K _ (put8 V17 b12_11 (there x))
          rw [← hV18]
          have L18 : Below W.heap.size W V18 := by rw [hV18]; exact (L17).trans (put8_below (there x) (by omega))
          have M18 : Wb V18 Bx x := by rw [hV18]; exact put8_oth (there x) M17 (by omega)
          have Y18a : Hb V18 b12_11 (there x) := by rw [hV18]; exact Y17a.put (there x)
          have Y18b : Hb V18 b13_16 (zh) := by rw [hV18]; exact put8_oth (there x) Y17b (by omega)
          clear hV18 n0 n1 n2 n3 n4 n5 n6 n7 f0 f1 f2 f3 f4 f5 f6 f7
          refine hK.out _ _ ⟨M18.bx.c0, M18.bx.c1, M18.bx.c2, M18.bx.c3, M18.bx.c4, M18.bx.c5⟩ (fun hH2 => ?_)
          clear hK K hHeld
          rename _ => hHeld
          try simp only [Act.put, List.setIfInBounds_toArray, List.set_cons_zero, List.set_cons_succ]
          refine wpAnyH_ready (rs := [15]) (by kernel_rfl) (by simp) ?_
          refine AllReadyH.cons (o := { dst := none, op := _, type := _, pos := _, after := _, guard := _ }) rfl (fun K hK => ?_) AllReadyH.nil
          obtain ⟨⟨n0, n1, n2, n3, n4, n5, n6, n7⟩, f0, f1, f2, f3, f4, f5, f6, f7⟩ := row8 Y18b
          go_simp
          obtain ⟨V19, hV19⟩ : ∃ V', V' = put8 V18 b13_16 (back x) := ⟨_, rfl⟩
          change K _ (put8 V18 b13_16 (back x))
          rw [← hV19]
          have L19 : Below W.heap.size W V19 := by rw [hV19]; exact (L18).trans (put8_below (back x) (by omega))
          have M19 : Wb V19 Bx x := by rw [hV19]; exact put8_oth (back x) M18 (by omega)
          have Y19a : Hb V19 b12_11 (there x) := by rw [hV19]; exact put8_oth (back x) Y18a (by omega)
          have Y19b : Hb V19 b13_16 (back x) := by rw [hV19]; exact Y18b.put (back x)
          clear hV19 n0 n1 n2 n3 n4 n5 n6 n7 f0 f1 f2 f3 f4 f5 f6 f7
          refine hK.out _ _ ⟨M19.bx.c0, M19.bx.c1, M19.bx.c2, M19.bx.c3, M19.bx.c4, M19.bx.c5⟩ (fun hH2 => ?_)
          clear hK K hHeld
          rename _ => hHeld
          try simp only [Act.put, List.setIfInBounds_toArray, List.set_cons_zero, List.set_cons_succ]
          refine wpAnyH_done (by kernel_rfl) ?_ _
          exact ⟨rfl, b12_11, b13_16, rfl, L19, by assumption, Y19a, Y19b⟩
        refine AllReadyH.cons (o := { dst := some 5, op := _, type := _, pos := _, after := _, guard := _ }) rfl (fun K hK => ?_) AllReadyH.nil
        go_simp
        obtain ⟨b13_20, hb13_20⟩ : ∃ b, b = V1.heap.size := ⟨_, rfl⟩
        obtain ⟨V20, hV20⟩ : ∃ V', V' = V1.alloc (.cells #[.int .i64 0, .int .i64 0, .int .i64 0, .int .i64 0, .int .i64 0, .int .i64 0, .int .i64 0, .int .i64 0] 78) := ⟨_, rfl⟩
        have hB20 : Below V1.heap.size V1 V20 := by rw [hV20]; exact bel1 _ _
        have X20 : Hb V20 b13_20 zh := by rw [hV20, hb13_20]; exact Hb.new V1 zh
        have hlb20 : W.heap.size ≤ b13_20 := by rw [hb13_20]; exact (L1).size
        have L20 := bt L1 hB20
        have M20 : Wb V20 Bx x := heap_keep hB20 M1
        change K _ (V1.alloc (.cells #[.int .i64 0, .int .i64 0, .int .i64 0, .int .i64 0, .int .i64 0, .int .i64 0, .int .i64 0, .int .i64 0] 78))
        rw [← hV20]
        first | (rw [← hb13_20]) | (rw [show W.heap.size = b13_20 from hb13_20.symm])
        clear hV20 hb13_20
        refine hK.out _ _ ⟨M20.bx.c0, M20.bx.c1, M20.bx.c2, M20.bx.c3, M20.bx.c4, M20.bx.c5⟩ (fun hH2 => ?_)
        clear hK K hHeld
        rename _ => hHeld
        try simp only [Act.put, List.setIfInBounds_toArray, List.set_cons_zero, List.set_cons_succ]
        refine wpAnyH_ready (rs := [7, 12]) (by kernel_rfl) (by simp) ?_
        refine AllReadyH.cons (o := { dst := some 16, op := _, type := _, pos := _, after := _, guard := _ }) rfl (fun K hK => ?_) ?_
        · go_simp
          go_at_call 87; refine (HFAR.out _).mono ?_
          rintro r V21 ⟨rfl, hB21⟩
          go_wp2_with fail
          have L21 := bt L20 hB21
          have M21 : Wb V21 Bx x := heap_keep hB21 M20
          have Y21b := Hb.call X20 hB21
          refine hK.out _ _ ⟨M21.bx.c0, M21.bx.c1, M21.bx.c2, M21.bx.c3, M21.bx.c4, M21.bx.c5⟩ (fun hH2 => ?_)
          clear hK K hHeld
          rename _ => hHeld
          try simp only [Act.put, List.setIfInBounds_toArray, List.set_cons_zero, List.set_cons_succ]
          refine wpAnyH_take (i := 11) (oi := { dst := some 20, op := _, type := _, pos := _, after := _, guard := _ }) (v := ?_) rfl (by kernel_rfl) (by kernel_rfl) (by kernel_rfl) (fun _ _ _ h => by cases h.1) (Or.inl ⟨by rfl, ?_⟩) (by assumption) ?_
          rotate_left
          · (intro w hSw; (try dsimp only at hSw); go_simp)
            first | done | with_reducible rfl
          try simp only [Act.put, List.setIfInBounds_toArray, List.set_cons_zero, List.set_cons_succ]
          refine wpAnyH_ready (rs := [12]) (by kernel_rfl) (by simp) ?_
          refine AllReadyH.cons (o := { dst := some 4, op := _, type := _, pos := _, after := _, guard := _ }) rfl (fun K hK => ?_) AllReadyH.nil
          go_simp
          obtain ⟨b12_22, hb12_22⟩ : ∃ b, b = V21.heap.size := ⟨_, rfl⟩
          obtain ⟨V22, hV22⟩ : ∃ V', V' = V21.alloc (.cells #[.int .i64 0, .int .i64 0, .int .i64 0, .int .i64 0, .int .i64 0, .int .i64 0, .int .i64 0, .int .i64 0] 78) := ⟨_, rfl⟩
          have hB22 : Below V21.heap.size V21 V22 := by rw [hV22]; exact bel1 _ _
          have X22 : Hb V22 b12_22 zh := by rw [hV22, hb12_22]; exact Hb.new V21 zh
          have hlb22 : W.heap.size ≤ b12_22 := by rw [hb12_22]; exact (L21).size
          have L22 := bt L21 hB22
          have M22 : Wb V22 Bx x := heap_keep hB22 M21
          have Y22b := Hb.call Y21b hB22
          have hne22 : b12_22 ≠ b13_20 := by have := hlt_of Y21b; omega
          change K _ (V21.alloc (.cells #[.int .i64 0, .int .i64 0, .int .i64 0, .int .i64 0, .int .i64 0, .int .i64 0, .int .i64 0, .int .i64 0] 78))
          rw [← hV22]
          first | (rw [← hb12_22]) | (rw [show W.heap.size = b12_22 from hb12_22.symm])
          clear hV22 hb12_22
          refine hK.out _ _ ⟨M22.bx.c0, M22.bx.c1, M22.bx.c2, M22.bx.c3, M22.bx.c4, M22.bx.c5⟩ (fun hH2 => ?_)
          clear hK K hHeld
          rename _ => hHeld
          try simp only [Act.put, List.setIfInBounds_toArray, List.set_cons_zero, List.set_cons_succ]
          refine wpAnyH_ready (rs := [14]) (by kernel_rfl) (by simp) ?_
          refine AllReadyH.cons (o := { dst := none, op := _, type := _, pos := _, after := _, guard := _ }) rfl (fun K hK => ?_) AllReadyH.nil
          obtain ⟨⟨n0, n1, n2, n3, n4, n5, n6, n7⟩, f0, f1, f2, f3, f4, f5, f6, f7⟩ := row8 X22
          go_simp
          obtain ⟨V23, hV23⟩ : ∃ V', V' = put8 V22 b12_22 (there x) := ⟨_, rfl⟩
          change K _ (put8 V22 b12_22 (there x))
          rw [← hV23]
          have L23 : Below W.heap.size W V23 := by rw [hV23]; exact (L22).trans (put8_below (there x) (by omega))
          have M23 : Wb V23 Bx x := by rw [hV23]; exact put8_oth (there x) M22 (by omega)
          have Y23a : Hb V23 b12_22 (there x) := by rw [hV23]; exact X22.put (there x)
          have Y23b : Hb V23 b13_20 (zh) := by rw [hV23]; exact put8_oth (there x) Y22b (by omega)
          clear hV23 n0 n1 n2 n3 n4 n5 n6 n7 f0 f1 f2 f3 f4 f5 f6 f7
          refine hK.out _ _ ⟨M23.bx.c0, M23.bx.c1, M23.bx.c2, M23.bx.c3, M23.bx.c4, M23.bx.c5⟩ (fun hH2 => ?_)
          clear hK K hHeld
          rename _ => hHeld
          try simp only [Act.put, List.setIfInBounds_toArray, List.set_cons_zero, List.set_cons_succ]
          refine wpAnyH_ready (rs := [15]) (by kernel_rfl) (by simp) ?_
          refine AllReadyH.cons (o := { dst := none, op := _, type := _, pos := _, after := _, guard := _ }) rfl (fun K hK => ?_) AllReadyH.nil
          obtain ⟨⟨n0, n1, n2, n3, n4, n5, n6, n7⟩, f0, f1, f2, f3, f4, f5, f6, f7⟩ := row8 Y23b
          go_simp
          obtain ⟨V24, hV24⟩ : ∃ V', V' = put8 V23 b13_20 (back x) := ⟨_, rfl⟩
          change K _ (put8 V23 b13_20 (back x))
          rw [← hV24]
          have L24 : Below W.heap.size W V24 := by rw [hV24]; exact (L23).trans (put8_below (back x) (by omega))
          have M24 : Wb V24 Bx x := by rw [hV24]; exact put8_oth (back x) M23 (by omega)
          have Y24a : Hb V24 b12_22 (there x) := by rw [hV24]; exact put8_oth (back x) Y23a (by omega)
          have Y24b : Hb V24 b13_20 (back x) := by rw [hV24]; exact Y23b.put (back x)
          clear hV24 n0 n1 n2 n3 n4 n5 n6 n7 f0 f1 f2 f3 f4 f5 f6 f7
          refine hK.out _ _ ⟨M24.bx.c0, M24.bx.c1, M24.bx.c2, M24.bx.c3, M24.bx.c4, M24.bx.c5⟩ (fun hH2 => ?_)
          clear hK K hHeld
          rename _ => hHeld
          try simp only [Act.put, List.setIfInBounds_toArray, List.set_cons_zero, List.set_cons_succ]
          refine wpAnyH_done (by kernel_rfl) ?_ _
          exact ⟨rfl, b12_22, b13_20, rfl, L24, by assumption, Y24a, Y24b⟩
        refine AllReadyH.cons (o := { dst := some 4, op := _, type := _, pos := _, after := _, guard := _ }) rfl (fun K hK => ?_) AllReadyH.nil
        go_simp
        obtain ⟨b12_25, hb12_25⟩ : ∃ b, b = V20.heap.size := ⟨_, rfl⟩
        obtain ⟨V25, hV25⟩ : ∃ V', V' = V20.alloc (.cells #[.int .i64 0, .int .i64 0, .int .i64 0, .int .i64 0, .int .i64 0, .int .i64 0, .int .i64 0, .int .i64 0] 78) := ⟨_, rfl⟩
        have hB25 : Below V20.heap.size V20 V25 := by rw [hV25]; exact bel1 _ _
        have X25 : Hb V25 b12_25 zh := by rw [hV25, hb12_25]; exact Hb.new V20 zh
        have hlb25 : W.heap.size ≤ b12_25 := by rw [hb12_25]; exact (L20).size
        have L25 := bt L20 hB25
        have M25 : Wb V25 Bx x := heap_keep hB25 M20
        have Y25b := Hb.call X20 hB25
        have hne25 : b12_25 ≠ b13_20 := by have := hlt_of X20; omega
        change K _ (V20.alloc (.cells #[.int .i64 0, .int .i64 0, .int .i64 0, .int .i64 0, .int .i64 0, .int .i64 0, .int .i64 0, .int .i64 0] 78))
        rw [← hV25]
        first | (rw [← hb12_25]) | (rw [show W.heap.size = b12_25 from hb12_25.symm])
        clear hV25 hb12_25
        refine hK.out _ _ ⟨M25.bx.c0, M25.bx.c1, M25.bx.c2, M25.bx.c3, M25.bx.c4, M25.bx.c5⟩ (fun hH2 => ?_)
        clear hK K hHeld
        rename _ => hHeld
        try simp only [Act.put, List.setIfInBounds_toArray, List.set_cons_zero, List.set_cons_succ]
        refine wpAnyH_ready (rs := [7]) (by kernel_rfl) (by simp) ?_
        refine AllReadyH.cons (o := { dst := some 16, op := _, type := _, pos := _, after := _, guard := _ }) rfl (fun K hK => ?_) AllReadyH.nil
        go_simp
        go_at_call 87; refine (HFAR.out _).mono ?_
        rintro r V26 ⟨rfl, hB26⟩
        go_wp2_with fail
        have L26 := bt L25 hB26
        have M26 : Wb V26 Bx x := heap_keep hB26 M25
        have Y26a := Hb.call X25 hB26
        have Y26b := Hb.call Y25b hB26
        refine hK.out _ _ ⟨M26.bx.c0, M26.bx.c1, M26.bx.c2, M26.bx.c3, M26.bx.c4, M26.bx.c5⟩ (fun hH2 => ?_)
        clear hK K hHeld
        rename _ => hHeld
        try simp only [Act.put, List.setIfInBounds_toArray, List.set_cons_zero, List.set_cons_succ]
        refine wpAnyH_take (i := 11) (oi := { dst := some 20, op := _, type := _, pos := _, after := _, guard := _ }) (v := ?_) rfl (by kernel_rfl) (by kernel_rfl) (by kernel_rfl) (fun _ _ _ h => by cases h.1) (Or.inl ⟨by rfl, ?_⟩) (by assumption) ?_
        rotate_left
        · (intro w hSw; (try dsimp only at hSw); go_simp)
          first | done | with_reducible rfl
        try simp only [Act.put, List.setIfInBounds_toArray, List.set_cons_zero, List.set_cons_succ]
        refine wpAnyH_ready (rs := [14]) (by kernel_rfl) (by simp) ?_
        refine AllReadyH.cons (o := { dst := none, op := _, type := _, pos := _, after := _, guard := _ }) rfl (fun K hK => ?_) AllReadyH.nil
        obtain ⟨⟨n0, n1, n2, n3, n4, n5, n6, n7⟩, f0, f1, f2, f3, f4, f5, f6, f7⟩ := row8 Y26a
        go_simp
        obtain ⟨V27, hV27⟩ : ∃ V', V' = put8 V26 b12_25 (there x) := ⟨_, rfl⟩
        change K _ (put8 V26 b12_25 (there x))
        rw [← hV27]
        have L27 : Below W.heap.size W V27 := by rw [hV27]; exact (L26).trans (put8_below (there x) (by omega))
        have M27 : Wb V27 Bx x := by rw [hV27]; exact put8_oth (there x) M26 (by omega)
        have Y27a : Hb V27 b12_25 (there x) := by rw [hV27]; exact Y26a.put (there x)
        have Y27b : Hb V27 b13_20 (zh) := by rw [hV27]; exact put8_oth (there x) Y26b (by omega)
        clear hV27 n0 n1 n2 n3 n4 n5 n6 n7 f0 f1 f2 f3 f4 f5 f6 f7
        refine hK.out _ _ ⟨M27.bx.c0, M27.bx.c1, M27.bx.c2, M27.bx.c3, M27.bx.c4, M27.bx.c5⟩ (fun hH2 => ?_)
        clear hK K hHeld
        rename _ => hHeld
        try simp only [Act.put, List.setIfInBounds_toArray, List.set_cons_zero, List.set_cons_succ]
        refine wpAnyH_ready (rs := [15]) (by kernel_rfl) (by simp) ?_
        refine AllReadyH.cons (o := { dst := none, op := _, type := _, pos := _, after := _, guard := _ }) rfl (fun K hK => ?_) AllReadyH.nil
        obtain ⟨⟨n0, n1, n2, n3, n4, n5, n6, n7⟩, f0, f1, f2, f3, f4, f5, f6, f7⟩ := row8 Y27b
        go_simp
        obtain ⟨V28, hV28⟩ : ∃ V', V' = put8 V27 b13_20 (back x) := ⟨_, rfl⟩
        change K _ (put8 V27 b13_20 (back x))
        rw [← hV28]
        have L28 : Below W.heap.size W V28 := by rw [hV28]; exact (L27).trans (put8_below (back x) (by omega))
        have M28 : Wb V28 Bx x := by rw [hV28]; exact put8_oth (back x) M27 (by omega)
        have Y28a : Hb V28 b12_25 (there x) := by rw [hV28]; exact put8_oth (back x) Y27a (by omega)
        have Y28b : Hb V28 b13_20 (back x) := by rw [hV28]; exact Y27b.put (back x)
        clear hV28 n0 n1 n2 n3 n4 n5 n6 n7 f0 f1 f2 f3 f4 f5 f6 f7
        refine hK.out _ _ ⟨M28.bx.c0, M28.bx.c1, M28.bx.c2, M28.bx.c3, M28.bx.c4, M28.bx.c5⟩ (fun hH2 => ?_)
        clear hK K hHeld
        rename _ => hHeld
        try simp only [Act.put, List.setIfInBounds_toArray, List.set_cons_zero, List.set_cons_succ]
        refine wpAnyH_done (by kernel_rfl) ?_ _
        exact ⟨rfl, b12_25, b13_20, rfl, L28, by assumption, Y28a, Y28b⟩
      refine AllReadyH.cons (o := { dst := some 4, op := _, type := _, pos := _, after := _, guard := _ }) rfl (fun K hK => ?_) ?_
      · go_simp
        obtain ⟨b12_29, hb12_29⟩ : ∃ b, b = W.drew.heap.size := ⟨_, rfl⟩
        obtain ⟨V29, hV29⟩ : ∃ V', V' = W.drew.alloc (.cells #[.int .i64 0, .int .i64 0, .int .i64 0, .int .i64 0, .int .i64 0, .int .i64 0, .int .i64 0, .int .i64 0] 78) := ⟨_, rfl⟩
        have hB29 : Below W.drew.heap.size W.drew V29 := by rw [hV29]; exact bel1 _ _
        have X29 : Hb V29 b12_29 zh := by rw [hV29, hb12_29]; exact Hb.new W.drew zh
        have hlb29 : W.heap.size ≤ b12_29 := by rw [hb12_29]; exact (L0).size
        have L29 := bt L0 hB29
        have M29 : Wb V29 Bx x := heap_keep hB29 M0
        change K _ (W.drew.alloc (.cells #[.int .i64 0, .int .i64 0, .int .i64 0, .int .i64 0, .int .i64 0, .int .i64 0, .int .i64 0, .int .i64 0] 78))
        rw [← hV29]
        first | (rw [← hb12_29]) | (rw [show W.heap.size = b12_29 from hb12_29.symm])
        clear hV29 hb12_29
        refine hK.out _ _ ⟨M29.bx.c0, M29.bx.c1, M29.bx.c2, M29.bx.c3, M29.bx.c4, M29.bx.c5⟩ (fun hH2 => ?_)
        clear hK K hHeld
        rename _ => hHeld
        try simp only [Act.put, List.setIfInBounds_toArray, List.set_cons_zero, List.set_cons_succ]
        refine wpAnyH_ready (rs := [3, 13]) (by kernel_rfl) (by simp) ?_
        refine AllReadyH.cons (o := { dst := some 12, op := _, type := _, pos := _, after := _, guard := _ }) rfl (fun K hK => ?_) ?_
        · go_simp
          go_at_call 87; refine (HFAR.out _).mono ?_
          rintro r V30 ⟨rfl, hB30⟩
          go_wp2_with fail
          have L30 := bt L29 hB30
          have M30 : Wb V30 Bx x := heap_keep hB30 M29
          have Y30a := Hb.call X29 hB30
          refine hK.out _ _ ⟨M30.bx.c0, M30.bx.c1, M30.bx.c2, M30.bx.c3, M30.bx.c4, M30.bx.c5⟩ (fun hH2 => ?_)
          clear hK K hHeld
          rename _ => hHeld
          try simp only [Act.put, List.setIfInBounds_toArray, List.set_cons_zero, List.set_cons_succ]
          refine wpAnyH_take (i := 5) (oi := { dst := some 14, op := _, type := _, pos := _, after := _, guard := _ }) (v := ?_) rfl (by kernel_rfl) (by kernel_rfl) (by kernel_rfl) (fun _ _ _ h => by cases h.1) (Or.inl ⟨by rfl, ?_⟩) (by assumption) ?_
          rotate_left
          · (intro w hSw; (try dsimp only at hSw); go_simp)
            first | done | with_reducible rfl
          try simp only [Act.put, List.setIfInBounds_toArray, List.set_cons_zero, List.set_cons_succ]
          refine wpAnyH_ready (rs := [7, 13]) (by kernel_rfl) (by simp) ?_
          refine AllReadyH.cons (o := { dst := some 16, op := _, type := _, pos := _, after := _, guard := _ }) rfl (fun K hK => ?_) ?_
          · go_simp
            go_at_call 87; refine (HFAR.out _).mono ?_
            rintro r V31 ⟨rfl, hB31⟩
            go_wp2_with fail
            have L31 := bt L30 hB31
            have M31 : Wb V31 Bx x := heap_keep hB31 M30
            have Y31a := Hb.call Y30a hB31
            refine hK.out _ _ ⟨M31.bx.c0, M31.bx.c1, M31.bx.c2, M31.bx.c3, M31.bx.c4, M31.bx.c5⟩ (fun hH2 => ?_)
            clear hK K hHeld
            rename _ => hHeld
            try simp only [Act.put, List.setIfInBounds_toArray, List.set_cons_zero, List.set_cons_succ]
            refine wpAnyH_take (i := 11) (oi := { dst := some 20, op := _, type := _, pos := _, after := _, guard := _ }) (v := ?_) rfl (by kernel_rfl) (by kernel_rfl) (by kernel_rfl) (fun _ _ _ h => by cases h.1) (Or.inl ⟨by rfl, ?_⟩) (by assumption) ?_
            rotate_left
            · (intro w hSw; (try dsimp only at hSw); go_simp)
              first | done | with_reducible rfl
            try simp only [Act.put, List.setIfInBounds_toArray, List.set_cons_zero, List.set_cons_succ]
            refine wpAnyH_ready (rs := [13]) (by kernel_rfl) (by simp) ?_
            refine AllReadyH.cons (o := { dst := some 5, op := _, type := _, pos := _, after := _, guard := _ }) rfl (fun K hK => ?_) AllReadyH.nil
            go_simp
            obtain ⟨b13_32, hb13_32⟩ : ∃ b, b = V31.heap.size := ⟨_, rfl⟩
            obtain ⟨V32, hV32⟩ : ∃ V', V' = V31.alloc (.cells #[.int .i64 0, .int .i64 0, .int .i64 0, .int .i64 0, .int .i64 0, .int .i64 0, .int .i64 0, .int .i64 0] 78) := ⟨_, rfl⟩
            have hB32 : Below V31.heap.size V31 V32 := by rw [hV32]; exact bel1 _ _
            have X32 : Hb V32 b13_32 zh := by rw [hV32, hb13_32]; exact Hb.new V31 zh
            have hlb32 : W.heap.size ≤ b13_32 := by rw [hb13_32]; exact (L31).size
            have L32 := bt L31 hB32
            have M32 : Wb V32 Bx x := heap_keep hB32 M31
            have Y32a := Hb.call Y31a hB32
            have hne32 : b12_29 ≠ b13_32 := by have := hlt_of Y31a; omega
            change K _ (V31.alloc (.cells #[.int .i64 0, .int .i64 0, .int .i64 0, .int .i64 0, .int .i64 0, .int .i64 0, .int .i64 0, .int .i64 0] 78))
            rw [← hV32]
            first | (rw [← hb13_32]) | (rw [show W.heap.size = b13_32 from hb13_32.symm])
            clear hV32 hb13_32
            refine hK.out _ _ ⟨M32.bx.c0, M32.bx.c1, M32.bx.c2, M32.bx.c3, M32.bx.c4, M32.bx.c5⟩ (fun hH2 => ?_)
            clear hK K hHeld
            rename _ => hHeld
            try simp only [Act.put, List.setIfInBounds_toArray, List.set_cons_zero, List.set_cons_succ]
            refine wpAnyH_ready (rs := [14]) (by kernel_rfl) (by simp) ?_
            refine AllReadyH.cons (o := { dst := none, op := _, type := _, pos := _, after := _, guard := _ }) rfl (fun K hK => ?_) AllReadyH.nil
            obtain ⟨⟨n0, n1, n2, n3, n4, n5, n6, n7⟩, f0, f1, f2, f3, f4, f5, f6, f7⟩ := row8 Y32a
            go_simp
            obtain ⟨V33, hV33⟩ : ∃ V', V' = put8 V32 b12_29 (there x) := ⟨_, rfl⟩
            change K _ (put8 V32 b12_29 (there x))
            rw [← hV33]
            have L33 : Below W.heap.size W V33 := by rw [hV33]; exact (L32).trans (put8_below (there x) (by omega))
            have M33 : Wb V33 Bx x := by rw [hV33]; exact put8_oth (there x) M32 (by omega)
            have Y33a : Hb V33 b12_29 (there x) := by rw [hV33]; exact Y32a.put (there x)
            have Y33b : Hb V33 b13_32 (zh) := by rw [hV33]; exact put8_oth (there x) X32 (by omega)
            clear hV33 n0 n1 n2 n3 n4 n5 n6 n7 f0 f1 f2 f3 f4 f5 f6 f7
            refine hK.out _ _ ⟨M33.bx.c0, M33.bx.c1, M33.bx.c2, M33.bx.c3, M33.bx.c4, M33.bx.c5⟩ (fun hH2 => ?_)
            clear hK K hHeld
            rename _ => hHeld
            try simp only [Act.put, List.setIfInBounds_toArray, List.set_cons_zero, List.set_cons_succ]
            refine wpAnyH_ready (rs := [15]) (by kernel_rfl) (by simp) ?_
            refine AllReadyH.cons (o := { dst := none, op := _, type := _, pos := _, after := _, guard := _ }) rfl (fun K hK => ?_) AllReadyH.nil
            obtain ⟨⟨n0, n1, n2, n3, n4, n5, n6, n7⟩, f0, f1, f2, f3, f4, f5, f6, f7⟩ := row8 Y33b
            go_simp
            obtain ⟨V34, hV34⟩ : ∃ V', V' = put8 V33 b13_32 (back x) := ⟨_, rfl⟩
            change K _ (put8 V33 b13_32 (back x))
            rw [← hV34]
            have L34 : Below W.heap.size W V34 := by rw [hV34]; exact (L33).trans (put8_below (back x) (by omega))
            have M34 : Wb V34 Bx x := by rw [hV34]; exact put8_oth (back x) M33 (by omega)
            have Y34a : Hb V34 b12_29 (there x) := by rw [hV34]; exact put8_oth (back x) Y33a (by omega)
            have Y34b : Hb V34 b13_32 (back x) := by rw [hV34]; exact Y33b.put (back x)
            clear hV34 n0 n1 n2 n3 n4 n5 n6 n7 f0 f1 f2 f3 f4 f5 f6 f7
            refine hK.out _ _ ⟨M34.bx.c0, M34.bx.c1, M34.bx.c2, M34.bx.c3, M34.bx.c4, M34.bx.c5⟩ (fun hH2 => ?_)
            clear hK K hHeld
            rename _ => hHeld
            try simp only [Act.put, List.setIfInBounds_toArray, List.set_cons_zero, List.set_cons_succ]
            refine wpAnyH_done (by kernel_rfl) ?_ _
            exact ⟨rfl, b12_29, b13_32, rfl, L34, by assumption, Y34a, Y34b⟩
          refine AllReadyH.cons (o := { dst := some 5, op := _, type := _, pos := _, after := _, guard := _ }) rfl (fun K hK => ?_) AllReadyH.nil
          go_simp
          obtain ⟨b13_35, hb13_35⟩ : ∃ b, b = V30.heap.size := ⟨_, rfl⟩
          obtain ⟨V35, hV35⟩ : ∃ V', V' = V30.alloc (.cells #[.int .i64 0, .int .i64 0, .int .i64 0, .int .i64 0, .int .i64 0, .int .i64 0, .int .i64 0, .int .i64 0] 78) := ⟨_, rfl⟩
          have hB35 : Below V30.heap.size V30 V35 := by rw [hV35]; exact bel1 _ _
          have X35 : Hb V35 b13_35 zh := by rw [hV35, hb13_35]; exact Hb.new V30 zh
          have hlb35 : W.heap.size ≤ b13_35 := by rw [hb13_35]; exact (L30).size
          have L35 := bt L30 hB35
          have M35 : Wb V35 Bx x := heap_keep hB35 M30
          have Y35a := Hb.call Y30a hB35
          have hne35 : b12_29 ≠ b13_35 := by have := hlt_of Y30a; omega
          change K _ (V30.alloc (.cells #[.int .i64 0, .int .i64 0, .int .i64 0, .int .i64 0, .int .i64 0, .int .i64 0, .int .i64 0, .int .i64 0] 78))
          rw [← hV35]
          first | (rw [← hb13_35]) | (rw [show W.heap.size = b13_35 from hb13_35.symm])
          clear hV35 hb13_35
          refine hK.out _ _ ⟨M35.bx.c0, M35.bx.c1, M35.bx.c2, M35.bx.c3, M35.bx.c4, M35.bx.c5⟩ (fun hH2 => ?_)
          clear hK K hHeld
          rename _ => hHeld
          try simp only [Act.put, List.setIfInBounds_toArray, List.set_cons_zero, List.set_cons_succ]
          refine wpAnyH_ready (rs := [7]) (by kernel_rfl) (by simp) ?_
          refine AllReadyH.cons (o := { dst := some 16, op := _, type := _, pos := _, after := _, guard := _ }) rfl (fun K hK => ?_) AllReadyH.nil
          go_simp
          go_at_call 87; refine (HFAR.out _).mono ?_
          rintro r V36 ⟨rfl, hB36⟩
          go_wp2_with fail
          have L36 := bt L35 hB36
          have M36 : Wb V36 Bx x := heap_keep hB36 M35
          have Y36a := Hb.call Y35a hB36
          have Y36b := Hb.call X35 hB36
          refine hK.out _ _ ⟨M36.bx.c0, M36.bx.c1, M36.bx.c2, M36.bx.c3, M36.bx.c4, M36.bx.c5⟩ (fun hH2 => ?_)
          clear hK K hHeld
          rename _ => hHeld
          try simp only [Act.put, List.setIfInBounds_toArray, List.set_cons_zero, List.set_cons_succ]
          refine wpAnyH_take (i := 11) (oi := { dst := some 20, op := _, type := _, pos := _, after := _, guard := _ }) (v := ?_) rfl (by kernel_rfl) (by kernel_rfl) (by kernel_rfl) (fun _ _ _ h => by cases h.1) (Or.inl ⟨by rfl, ?_⟩) (by assumption) ?_
          rotate_left
          · (intro w hSw; (try dsimp only at hSw); go_simp)
            first | done | with_reducible rfl
          try simp only [Act.put, List.setIfInBounds_toArray, List.set_cons_zero, List.set_cons_succ]
          refine wpAnyH_ready (rs := [14]) (by kernel_rfl) (by simp) ?_
          refine AllReadyH.cons (o := { dst := none, op := _, type := _, pos := _, after := _, guard := _ }) rfl (fun K hK => ?_) AllReadyH.nil
          obtain ⟨⟨n0, n1, n2, n3, n4, n5, n6, n7⟩, f0, f1, f2, f3, f4, f5, f6, f7⟩ := row8 Y36a
          go_simp
          obtain ⟨V37, hV37⟩ : ∃ V', V' = put8 V36 b12_29 (there x) := ⟨_, rfl⟩
          change K _ (put8 V36 b12_29 (there x))
          rw [← hV37]
          have L37 : Below W.heap.size W V37 := by rw [hV37]; exact (L36).trans (put8_below (there x) (by omega))
          have M37 : Wb V37 Bx x := by rw [hV37]; exact put8_oth (there x) M36 (by omega)
          have Y37a : Hb V37 b12_29 (there x) := by rw [hV37]; exact Y36a.put (there x)
          have Y37b : Hb V37 b13_35 (zh) := by rw [hV37]; exact put8_oth (there x) Y36b (by omega)
          clear hV37 n0 n1 n2 n3 n4 n5 n6 n7 f0 f1 f2 f3 f4 f5 f6 f7
          refine hK.out _ _ ⟨M37.bx.c0, M37.bx.c1, M37.bx.c2, M37.bx.c3, M37.bx.c4, M37.bx.c5⟩ (fun hH2 => ?_)
          clear hK K hHeld
          rename _ => hHeld
          try simp only [Act.put, List.setIfInBounds_toArray, List.set_cons_zero, List.set_cons_succ]
          refine wpAnyH_ready (rs := [15]) (by kernel_rfl) (by simp) ?_
          refine AllReadyH.cons (o := { dst := none, op := _, type := _, pos := _, after := _, guard := _ }) rfl (fun K hK => ?_) AllReadyH.nil
          obtain ⟨⟨n0, n1, n2, n3, n4, n5, n6, n7⟩, f0, f1, f2, f3, f4, f5, f6, f7⟩ := row8 Y37b
          go_simp
          obtain ⟨V38, hV38⟩ : ∃ V', V' = put8 V37 b13_35 (back x) := ⟨_, rfl⟩
          change K _ (put8 V37 b13_35 (back x))
          rw [← hV38]
          have L38 : Below W.heap.size W V38 := by rw [hV38]; exact (L37).trans (put8_below (back x) (by omega))
          have M38 : Wb V38 Bx x := by rw [hV38]; exact put8_oth (back x) M37 (by omega)
          have Y38a : Hb V38 b12_29 (there x) := by rw [hV38]; exact put8_oth (back x) Y37a (by omega)
          have Y38b : Hb V38 b13_35 (back x) := by rw [hV38]; exact Y37b.put (back x)
          clear hV38 n0 n1 n2 n3 n4 n5 n6 n7 f0 f1 f2 f3 f4 f5 f6 f7
          refine hK.out _ _ ⟨M38.bx.c0, M38.bx.c1, M38.bx.c2, M38.bx.c3, M38.bx.c4, M38.bx.c5⟩ (fun hH2 => ?_)
          clear hK K hHeld
          rename _ => hHeld
          try simp only [Act.put, List.setIfInBounds_toArray, List.set_cons_zero, List.set_cons_succ]
          refine wpAnyH_done (by kernel_rfl) ?_ _
          exact ⟨rfl, b12_29, b13_35, rfl, L38, by assumption, Y38a, Y38b⟩
        refine AllReadyH.cons (o := { dst := some 5, op := _, type := _, pos := _, after := _, guard := _ }) rfl (fun K hK => ?_) AllReadyH.nil
        go_simp
        obtain ⟨b13_39, hb13_39⟩ : ∃ b, b = V29.heap.size := ⟨_, rfl⟩
        obtain ⟨V39, hV39⟩ : ∃ V', V' = V29.alloc (.cells #[.int .i64 0, .int .i64 0, .int .i64 0, .int .i64 0, .int .i64 0, .int .i64 0, .int .i64 0, .int .i64 0] 78) := ⟨_, rfl⟩
        have hB39 : Below V29.heap.size V29 V39 := by rw [hV39]; exact bel1 _ _
        have X39 : Hb V39 b13_39 zh := by rw [hV39, hb13_39]; exact Hb.new V29 zh
        have hlb39 : W.heap.size ≤ b13_39 := by rw [hb13_39]; exact (L29).size
        have L39 := bt L29 hB39
        have M39 : Wb V39 Bx x := heap_keep hB39 M29
        have Y39a := Hb.call X29 hB39
        have hne39 : b12_29 ≠ b13_39 := by have := hlt_of X29; omega
        change K _ (V29.alloc (.cells #[.int .i64 0, .int .i64 0, .int .i64 0, .int .i64 0, .int .i64 0, .int .i64 0, .int .i64 0, .int .i64 0] 78))
        rw [← hV39]
        first | (rw [← hb13_39]) | (rw [show W.heap.size = b13_39 from hb13_39.symm])
        clear hV39 hb13_39
        refine hK.out _ _ ⟨M39.bx.c0, M39.bx.c1, M39.bx.c2, M39.bx.c3, M39.bx.c4, M39.bx.c5⟩ (fun hH2 => ?_)
        clear hK K hHeld
        rename _ => hHeld
        try simp only [Act.put, List.setIfInBounds_toArray, List.set_cons_zero, List.set_cons_succ]
        refine wpAnyH_ready (rs := [3]) (by kernel_rfl) (by simp) ?_
        refine AllReadyH.cons (o := { dst := some 12, op := _, type := _, pos := _, after := _, guard := _ }) rfl (fun K hK => ?_) AllReadyH.nil
        go_simp
        go_at_call 87; refine (HFAR.out _).mono ?_
        rintro r V40 ⟨rfl, hB40⟩
        go_wp2_with fail
        have L40 := bt L39 hB40
        have M40 : Wb V40 Bx x := heap_keep hB40 M39
        have Y40a := Hb.call Y39a hB40
        have Y40b := Hb.call X39 hB40
        refine hK.out _ _ ⟨M40.bx.c0, M40.bx.c1, M40.bx.c2, M40.bx.c3, M40.bx.c4, M40.bx.c5⟩ (fun hH2 => ?_)
        clear hK K hHeld
        rename _ => hHeld
        try simp only [Act.put, List.setIfInBounds_toArray, List.set_cons_zero, List.set_cons_succ]
        refine wpAnyH_take (i := 5) (oi := { dst := some 14, op := _, type := _, pos := _, after := _, guard := _ }) (v := ?_) rfl (by kernel_rfl) (by kernel_rfl) (by kernel_rfl) (fun _ _ _ h => by cases h.1) (Or.inl ⟨by rfl, ?_⟩) (by assumption) ?_
        rotate_left
        · (intro w hSw; (try dsimp only at hSw); go_simp)
          first | done | with_reducible rfl
        try simp only [Act.put, List.setIfInBounds_toArray, List.set_cons_zero, List.set_cons_succ]
        refine wpAnyH_ready (rs := [7]) (by kernel_rfl) (by simp) ?_
        refine AllReadyH.cons (o := { dst := some 16, op := _, type := _, pos := _, after := _, guard := _ }) rfl (fun K hK => ?_) AllReadyH.nil
        go_simp
        go_at_call 87; refine (HFAR.out _).mono ?_
        rintro r V41 ⟨rfl, hB41⟩
        go_wp2_with fail
        have L41 := bt L40 hB41
        have M41 : Wb V41 Bx x := heap_keep hB41 M40
        have Y41a := Hb.call Y40a hB41
        have Y41b := Hb.call Y40b hB41
        refine hK.out _ _ ⟨M41.bx.c0, M41.bx.c1, M41.bx.c2, M41.bx.c3, M41.bx.c4, M41.bx.c5⟩ (fun hH2 => ?_)
        clear hK K hHeld
        rename _ => hHeld
        try simp only [Act.put, List.setIfInBounds_toArray, List.set_cons_zero, List.set_cons_succ]
        refine wpAnyH_take (i := 11) (oi := { dst := some 20, op := _, type := _, pos := _, after := _, guard := _ }) (v := ?_) rfl (by kernel_rfl) (by kernel_rfl) (by kernel_rfl) (fun _ _ _ h => by cases h.1) (Or.inl ⟨by rfl, ?_⟩) (by assumption) ?_
        rotate_left
        · (intro w hSw; (try dsimp only at hSw); go_simp)
          first | done | with_reducible rfl
        try simp only [Act.put, List.setIfInBounds_toArray, List.set_cons_zero, List.set_cons_succ]
        refine wpAnyH_ready (rs := [14]) (by kernel_rfl) (by simp) ?_
        refine AllReadyH.cons (o := { dst := none, op := _, type := _, pos := _, after := _, guard := _ }) rfl (fun K hK => ?_) AllReadyH.nil
        obtain ⟨⟨n0, n1, n2, n3, n4, n5, n6, n7⟩, f0, f1, f2, f3, f4, f5, f6, f7⟩ := row8 Y41a
        go_simp
        obtain ⟨V42, hV42⟩ : ∃ V', V' = put8 V41 b12_29 (there x) := ⟨_, rfl⟩
        change K _ (put8 V41 b12_29 (there x))
        rw [← hV42]
        have L42 : Below W.heap.size W V42 := by rw [hV42]; exact (L41).trans (put8_below (there x) (by omega))
        have M42 : Wb V42 Bx x := by rw [hV42]; exact put8_oth (there x) M41 (by omega)
        have Y42a : Hb V42 b12_29 (there x) := by rw [hV42]; exact Y41a.put (there x)
        have Y42b : Hb V42 b13_39 (zh) := by rw [hV42]; exact put8_oth (there x) Y41b (by omega)
        clear hV42 n0 n1 n2 n3 n4 n5 n6 n7 f0 f1 f2 f3 f4 f5 f6 f7
        refine hK.out _ _ ⟨M42.bx.c0, M42.bx.c1, M42.bx.c2, M42.bx.c3, M42.bx.c4, M42.bx.c5⟩ (fun hH2 => ?_)
        clear hK K hHeld
        rename _ => hHeld
        try simp only [Act.put, List.setIfInBounds_toArray, List.set_cons_zero, List.set_cons_succ]
        refine wpAnyH_ready (rs := [15]) (by kernel_rfl) (by simp) ?_
        refine AllReadyH.cons (o := { dst := none, op := _, type := _, pos := _, after := _, guard := _ }) rfl (fun K hK => ?_) AllReadyH.nil
        obtain ⟨⟨n0, n1, n2, n3, n4, n5, n6, n7⟩, f0, f1, f2, f3, f4, f5, f6, f7⟩ := row8 Y42b
        go_simp
        obtain ⟨V43, hV43⟩ : ∃ V', V' = put8 V42 b13_39 (back x) := ⟨_, rfl⟩
        change K _ (put8 V42 b13_39 (back x))
        rw [← hV43]
        have L43 : Below W.heap.size W V43 := by rw [hV43]; exact (L42).trans (put8_below (back x) (by omega))
        have M43 : Wb V43 Bx x := by rw [hV43]; exact put8_oth (back x) M42 (by omega)
        have Y43a : Hb V43 b12_29 (there x) := by rw [hV43]; exact put8_oth (back x) Y42a (by omega)
        have Y43b : Hb V43 b13_39 (back x) := by rw [hV43]; exact Y42b.put (back x)
        clear hV43 n0 n1 n2 n3 n4 n5 n6 n7 f0 f1 f2 f3 f4 f5 f6 f7
        refine hK.out _ _ ⟨M43.bx.c0, M43.bx.c1, M43.bx.c2, M43.bx.c3, M43.bx.c4, M43.bx.c5⟩ (fun hH2 => ?_)
        clear hK K hHeld
        rename _ => hHeld
        try simp only [Act.put, List.setIfInBounds_toArray, List.set_cons_zero, List.set_cons_succ]
        refine wpAnyH_done (by kernel_rfl) ?_ _
        exact ⟨rfl, b12_29, b13_39, rfl, L43, by assumption, Y43a, Y43b⟩
      refine AllReadyH.cons (o := { dst := some 5, op := _, type := _, pos := _, after := _, guard := _ }) rfl (fun K hK => ?_) AllReadyH.nil
      go_simp
      obtain ⟨b13_44, hb13_44⟩ : ∃ b, b = W.drew.heap.size := ⟨_, rfl⟩
      obtain ⟨V44, hV44⟩ : ∃ V', V' = W.drew.alloc (.cells #[.int .i64 0, .int .i64 0, .int .i64 0, .int .i64 0, .int .i64 0, .int .i64 0, .int .i64 0, .int .i64 0] 78) := ⟨_, rfl⟩
      have hB44 : Below W.drew.heap.size W.drew V44 := by rw [hV44]; exact bel1 _ _
      have X44 : Hb V44 b13_44 zh := by rw [hV44, hb13_44]; exact Hb.new W.drew zh
      have hlb44 : W.heap.size ≤ b13_44 := by rw [hb13_44]; exact (L0).size
      have L44 := bt L0 hB44
      have M44 : Wb V44 Bx x := heap_keep hB44 M0
      change K _ (W.drew.alloc (.cells #[.int .i64 0, .int .i64 0, .int .i64 0, .int .i64 0, .int .i64 0, .int .i64 0, .int .i64 0, .int .i64 0] 78))
      rw [← hV44]
      first | (rw [← hb13_44]) | (rw [show W.heap.size = b13_44 from hb13_44.symm])
      clear hV44 hb13_44
      refine hK.out _ _ ⟨M44.bx.c0, M44.bx.c1, M44.bx.c2, M44.bx.c3, M44.bx.c4, M44.bx.c5⟩ (fun hH2 => ?_)
      clear hK K hHeld
      rename _ => hHeld
      try simp only [Act.put, List.setIfInBounds_toArray, List.set_cons_zero, List.set_cons_succ]
      refine wpAnyH_ready (rs := [3, 12]) (by kernel_rfl) (by simp) ?_
      refine AllReadyH.cons (o := { dst := some 12, op := _, type := _, pos := _, after := _, guard := _ }) rfl (fun K hK => ?_) ?_
      · go_simp
        go_at_call 87; refine (HFAR.out _).mono ?_
        rintro r V45 ⟨rfl, hB45⟩
        go_wp2_with fail
        have L45 := bt L44 hB45
        have M45 : Wb V45 Bx x := heap_keep hB45 M44
        have Y45b := Hb.call X44 hB45
        refine hK.out _ _ ⟨M45.bx.c0, M45.bx.c1, M45.bx.c2, M45.bx.c3, M45.bx.c4, M45.bx.c5⟩ (fun hH2 => ?_)
        clear hK K hHeld
        rename _ => hHeld
        try simp only [Act.put, List.setIfInBounds_toArray, List.set_cons_zero, List.set_cons_succ]
        refine wpAnyH_take (i := 5) (oi := { dst := some 14, op := _, type := _, pos := _, after := _, guard := _ }) (v := ?_) rfl (by kernel_rfl) (by kernel_rfl) (by kernel_rfl) (fun _ _ _ h => by cases h.1) (Or.inl ⟨by rfl, ?_⟩) (by assumption) ?_
        rotate_left
        · (intro w hSw; (try dsimp only at hSw); go_simp)
          first | done | with_reducible rfl
        try simp only [Act.put, List.setIfInBounds_toArray, List.set_cons_zero, List.set_cons_succ]
        refine wpAnyH_ready (rs := [7, 12]) (by kernel_rfl) (by simp) ?_
        refine AllReadyH.cons (o := { dst := some 16, op := _, type := _, pos := _, after := _, guard := _ }) rfl (fun K hK => ?_) ?_
        · go_simp
          go_at_call 87; refine (HFAR.out _).mono ?_
          rintro r V46 ⟨rfl, hB46⟩
          go_wp2_with fail
          have L46 := bt L45 hB46
          have M46 : Wb V46 Bx x := heap_keep hB46 M45
          have Y46b := Hb.call Y45b hB46
          refine hK.out _ _ ⟨M46.bx.c0, M46.bx.c1, M46.bx.c2, M46.bx.c3, M46.bx.c4, M46.bx.c5⟩ (fun hH2 => ?_)
          clear hK K hHeld
          rename _ => hHeld
          try simp only [Act.put, List.setIfInBounds_toArray, List.set_cons_zero, List.set_cons_succ]
          refine wpAnyH_take (i := 11) (oi := { dst := some 20, op := _, type := _, pos := _, after := _, guard := _ }) (v := ?_) rfl (by kernel_rfl) (by kernel_rfl) (by kernel_rfl) (fun _ _ _ h => by cases h.1) (Or.inl ⟨by rfl, ?_⟩) (by assumption) ?_
          rotate_left
          · (intro w hSw; (try dsimp only at hSw); go_simp)
            first | done | with_reducible rfl
          try simp only [Act.put, List.setIfInBounds_toArray, List.set_cons_zero, List.set_cons_succ]
          refine wpAnyH_ready (rs := [12]) (by kernel_rfl) (by simp) ?_
          refine AllReadyH.cons (o := { dst := some 4, op := _, type := _, pos := _, after := _, guard := _ }) rfl (fun K hK => ?_) AllReadyH.nil
          go_simp
          obtain ⟨b12_47, hb12_47⟩ : ∃ b, b = V46.heap.size := ⟨_, rfl⟩
          obtain ⟨V47, hV47⟩ : ∃ V', V' = V46.alloc (.cells #[.int .i64 0, .int .i64 0, .int .i64 0, .int .i64 0, .int .i64 0, .int .i64 0, .int .i64 0, .int .i64 0] 78) := ⟨_, rfl⟩
          have hB47 : Below V46.heap.size V46 V47 := by rw [hV47]; exact bel1 _ _
          have X47 : Hb V47 b12_47 zh := by rw [hV47, hb12_47]; exact Hb.new V46 zh
          have hlb47 : W.heap.size ≤ b12_47 := by rw [hb12_47]; exact (L46).size
          have L47 := bt L46 hB47
          have M47 : Wb V47 Bx x := heap_keep hB47 M46
          have Y47b := Hb.call Y46b hB47
          have hne47 : b12_47 ≠ b13_44 := by have := hlt_of Y46b; omega
          change K _ (V46.alloc (.cells #[.int .i64 0, .int .i64 0, .int .i64 0, .int .i64 0, .int .i64 0, .int .i64 0, .int .i64 0, .int .i64 0] 78))
          rw [← hV47]
          first | (rw [← hb12_47]) | (rw [show W.heap.size = b12_47 from hb12_47.symm])
          clear hV47 hb12_47
          refine hK.out _ _ ⟨M47.bx.c0, M47.bx.c1, M47.bx.c2, M47.bx.c3, M47.bx.c4, M47.bx.c5⟩ (fun hH2 => ?_)
          clear hK K hHeld
          rename _ => hHeld
          try simp only [Act.put, List.setIfInBounds_toArray, List.set_cons_zero, List.set_cons_succ]
          refine wpAnyH_ready (rs := [14]) (by kernel_rfl) (by simp) ?_
          refine AllReadyH.cons (o := { dst := none, op := _, type := _, pos := _, after := _, guard := _ }) rfl (fun K hK => ?_) AllReadyH.nil
          obtain ⟨⟨n0, n1, n2, n3, n4, n5, n6, n7⟩, f0, f1, f2, f3, f4, f5, f6, f7⟩ := row8 X47
          go_simp
          obtain ⟨V48, hV48⟩ : ∃ V', V' = put8 V47 b12_47 (there x) := ⟨_, rfl⟩
          change K _ (put8 V47 b12_47 (there x))
          rw [← hV48]
          have L48 : Below W.heap.size W V48 := by rw [hV48]; exact (L47).trans (put8_below (there x) (by omega))
          have M48 : Wb V48 Bx x := by rw [hV48]; exact put8_oth (there x) M47 (by omega)
          have Y48a : Hb V48 b12_47 (there x) := by rw [hV48]; exact X47.put (there x)
          have Y48b : Hb V48 b13_44 (zh) := by rw [hV48]; exact put8_oth (there x) Y47b (by omega)
          clear hV48 n0 n1 n2 n3 n4 n5 n6 n7 f0 f1 f2 f3 f4 f5 f6 f7
          refine hK.out _ _ ⟨M48.bx.c0, M48.bx.c1, M48.bx.c2, M48.bx.c3, M48.bx.c4, M48.bx.c5⟩ (fun hH2 => ?_)
          clear hK K hHeld
          rename _ => hHeld
          try simp only [Act.put, List.setIfInBounds_toArray, List.set_cons_zero, List.set_cons_succ]
          refine wpAnyH_ready (rs := [15]) (by kernel_rfl) (by simp) ?_
          refine AllReadyH.cons (o := { dst := none, op := _, type := _, pos := _, after := _, guard := _ }) rfl (fun K hK => ?_) AllReadyH.nil
          obtain ⟨⟨n0, n1, n2, n3, n4, n5, n6, n7⟩, f0, f1, f2, f3, f4, f5, f6, f7⟩ := row8 Y48b
          go_simp
          obtain ⟨V49, hV49⟩ : ∃ V', V' = put8 V48 b13_44 (back x) := ⟨_, rfl⟩
          change K _ (put8 V48 b13_44 (back x))
          rw [← hV49]
          have L49 : Below W.heap.size W V49 := by rw [hV49]; exact (L48).trans (put8_below (back x) (by omega))
          have M49 : Wb V49 Bx x := by rw [hV49]; exact put8_oth (back x) M48 (by omega)
          have Y49a : Hb V49 b12_47 (there x) := by rw [hV49]; exact put8_oth (back x) Y48a (by omega)
          have Y49b : Hb V49 b13_44 (back x) := by rw [hV49]; exact Y48b.put (back x)
          clear hV49 n0 n1 n2 n3 n4 n5 n6 n7 f0 f1 f2 f3 f4 f5 f6 f7
          refine hK.out _ _ ⟨M49.bx.c0, M49.bx.c1, M49.bx.c2, M49.bx.c3, M49.bx.c4, M49.bx.c5⟩ (fun hH2 => ?_)
          clear hK K hHeld
          rename _ => hHeld
          try simp only [Act.put, List.setIfInBounds_toArray, List.set_cons_zero, List.set_cons_succ]
          refine wpAnyH_done (by kernel_rfl) ?_ _
          exact ⟨rfl, b12_47, b13_44, rfl, L49, by assumption, Y49a, Y49b⟩
        refine AllReadyH.cons (o := { dst := some 4, op := _, type := _, pos := _, after := _, guard := _ }) rfl (fun K hK => ?_) AllReadyH.nil
        go_simp
        obtain ⟨b12_50, hb12_50⟩ : ∃ b, b = V45.heap.size := ⟨_, rfl⟩
        obtain ⟨V50, hV50⟩ : ∃ V', V' = V45.alloc (.cells #[.int .i64 0, .int .i64 0, .int .i64 0, .int .i64 0, .int .i64 0, .int .i64 0, .int .i64 0, .int .i64 0] 78) := ⟨_, rfl⟩
        have hB50 : Below V45.heap.size V45 V50 := by rw [hV50]; exact bel1 _ _
        have X50 : Hb V50 b12_50 zh := by rw [hV50, hb12_50]; exact Hb.new V45 zh
        have hlb50 : W.heap.size ≤ b12_50 := by rw [hb12_50]; exact (L45).size
        have L50 := bt L45 hB50
        have M50 : Wb V50 Bx x := heap_keep hB50 M45
        have Y50b := Hb.call Y45b hB50
        have hne50 : b12_50 ≠ b13_44 := by have := hlt_of Y45b; omega
        change K _ (V45.alloc (.cells #[.int .i64 0, .int .i64 0, .int .i64 0, .int .i64 0, .int .i64 0, .int .i64 0, .int .i64 0, .int .i64 0] 78))
        rw [← hV50]
        first | (rw [← hb12_50]) | (rw [show W.heap.size = b12_50 from hb12_50.symm])
        clear hV50 hb12_50
        refine hK.out _ _ ⟨M50.bx.c0, M50.bx.c1, M50.bx.c2, M50.bx.c3, M50.bx.c4, M50.bx.c5⟩ (fun hH2 => ?_)
        clear hK K hHeld
        rename _ => hHeld
        try simp only [Act.put, List.setIfInBounds_toArray, List.set_cons_zero, List.set_cons_succ]
        refine wpAnyH_ready (rs := [7]) (by kernel_rfl) (by simp) ?_
        refine AllReadyH.cons (o := { dst := some 16, op := _, type := _, pos := _, after := _, guard := _ }) rfl (fun K hK => ?_) AllReadyH.nil
        go_simp
        go_at_call 87; refine (HFAR.out _).mono ?_
        rintro r V51 ⟨rfl, hB51⟩
        go_wp2_with fail
        have L51 := bt L50 hB51
        have M51 : Wb V51 Bx x := heap_keep hB51 M50
        have Y51a := Hb.call X50 hB51
        have Y51b := Hb.call Y50b hB51
        refine hK.out _ _ ⟨M51.bx.c0, M51.bx.c1, M51.bx.c2, M51.bx.c3, M51.bx.c4, M51.bx.c5⟩ (fun hH2 => ?_)
        clear hK K hHeld
        rename _ => hHeld
        try simp only [Act.put, List.setIfInBounds_toArray, List.set_cons_zero, List.set_cons_succ]
        refine wpAnyH_take (i := 11) (oi := { dst := some 20, op := _, type := _, pos := _, after := _, guard := _ }) (v := ?_) rfl (by kernel_rfl) (by kernel_rfl) (by kernel_rfl) (fun _ _ _ h => by cases h.1) (Or.inl ⟨by rfl, ?_⟩) (by assumption) ?_
        rotate_left
        · (intro w hSw; (try dsimp only at hSw); go_simp)
          first | done | with_reducible rfl
        try simp only [Act.put, List.setIfInBounds_toArray, List.set_cons_zero, List.set_cons_succ]
        refine wpAnyH_ready (rs := [14]) (by kernel_rfl) (by simp) ?_
        refine AllReadyH.cons (o := { dst := none, op := _, type := _, pos := _, after := _, guard := _ }) rfl (fun K hK => ?_) AllReadyH.nil
        obtain ⟨⟨n0, n1, n2, n3, n4, n5, n6, n7⟩, f0, f1, f2, f3, f4, f5, f6, f7⟩ := row8 Y51a
        go_simp
        obtain ⟨V52, hV52⟩ : ∃ V', V' = put8 V51 b12_50 (there x) := ⟨_, rfl⟩
        change K _ (put8 V51 b12_50 (there x))
        rw [← hV52]
        have L52 : Below W.heap.size W V52 := by rw [hV52]; exact (L51).trans (put8_below (there x) (by omega))
        have M52 : Wb V52 Bx x := by rw [hV52]; exact put8_oth (there x) M51 (by omega)
        have Y52a : Hb V52 b12_50 (there x) := by rw [hV52]; exact Y51a.put (there x)
        have Y52b : Hb V52 b13_44 (zh) := by rw [hV52]; exact put8_oth (there x) Y51b (by omega)
        clear hV52 n0 n1 n2 n3 n4 n5 n6 n7 f0 f1 f2 f3 f4 f5 f6 f7
        refine hK.out _ _ ⟨M52.bx.c0, M52.bx.c1, M52.bx.c2, M52.bx.c3, M52.bx.c4, M52.bx.c5⟩ (fun hH2 => ?_)
        clear hK K hHeld
        rename _ => hHeld
        try simp only [Act.put, List.setIfInBounds_toArray, List.set_cons_zero, List.set_cons_succ]
        refine wpAnyH_ready (rs := [15]) (by kernel_rfl) (by simp) ?_
        refine AllReadyH.cons (o := { dst := none, op := _, type := _, pos := _, after := _, guard := _ }) rfl (fun K hK => ?_) AllReadyH.nil
        obtain ⟨⟨n0, n1, n2, n3, n4, n5, n6, n7⟩, f0, f1, f2, f3, f4, f5, f6, f7⟩ := row8 Y52b
        go_simp
        obtain ⟨V53, hV53⟩ : ∃ V', V' = put8 V52 b13_44 (back x) := ⟨_, rfl⟩
        change K _ (put8 V52 b13_44 (back x))
        rw [← hV53]
        have L53 : Below W.heap.size W V53 := by rw [hV53]; exact (L52).trans (put8_below (back x) (by omega))
        have M53 : Wb V53 Bx x := by rw [hV53]; exact put8_oth (back x) M52 (by omega)
        have Y53a : Hb V53 b12_50 (there x) := by rw [hV53]; exact put8_oth (back x) Y52a (by omega)
        have Y53b : Hb V53 b13_44 (back x) := by rw [hV53]; exact Y52b.put (back x)
        clear hV53 n0 n1 n2 n3 n4 n5 n6 n7 f0 f1 f2 f3 f4 f5 f6 f7
        refine hK.out _ _ ⟨M53.bx.c0, M53.bx.c1, M53.bx.c2, M53.bx.c3, M53.bx.c4, M53.bx.c5⟩ (fun hH2 => ?_)
        clear hK K hHeld
        rename _ => hHeld
        try simp only [Act.put, List.setIfInBounds_toArray, List.set_cons_zero, List.set_cons_succ]
        refine wpAnyH_done (by kernel_rfl) ?_ _
        exact ⟨rfl, b12_50, b13_44, rfl, L53, by assumption, Y53a, Y53b⟩
      refine AllReadyH.cons (o := { dst := some 4, op := _, type := _, pos := _, after := _, guard := _ }) rfl (fun K hK => ?_) AllReadyH.nil
      go_simp
      obtain ⟨b12_54, hb12_54⟩ : ∃ b, b = V44.heap.size := ⟨_, rfl⟩
      obtain ⟨V54, hV54⟩ : ∃ V', V' = V44.alloc (.cells #[.int .i64 0, .int .i64 0, .int .i64 0, .int .i64 0, .int .i64 0, .int .i64 0, .int .i64 0, .int .i64 0] 78) := ⟨_, rfl⟩
      have hB54 : Below V44.heap.size V44 V54 := by rw [hV54]; exact bel1 _ _
      have X54 : Hb V54 b12_54 zh := by rw [hV54, hb12_54]; exact Hb.new V44 zh
      have hlb54 : W.heap.size ≤ b12_54 := by rw [hb12_54]; exact (L44).size
      have L54 := bt L44 hB54
      have M54 : Wb V54 Bx x := heap_keep hB54 M44
      have Y54b := Hb.call X44 hB54
      have hne54 : b12_54 ≠ b13_44 := by have := hlt_of X44; omega
      change K _ (V44.alloc (.cells #[.int .i64 0, .int .i64 0, .int .i64 0, .int .i64 0, .int .i64 0, .int .i64 0, .int .i64 0, .int .i64 0] 78))
      rw [← hV54]
      first | (rw [← hb12_54]) | (rw [show W.heap.size = b12_54 from hb12_54.symm])
      clear hV54 hb12_54
      refine hK.out _ _ ⟨M54.bx.c0, M54.bx.c1, M54.bx.c2, M54.bx.c3, M54.bx.c4, M54.bx.c5⟩ (fun hH2 => ?_)
      clear hK K hHeld
      rename _ => hHeld
      try simp only [Act.put, List.setIfInBounds_toArray, List.set_cons_zero, List.set_cons_succ]
      refine wpAnyH_ready (rs := [3]) (by kernel_rfl) (by simp) ?_
      refine AllReadyH.cons (o := { dst := some 12, op := _, type := _, pos := _, after := _, guard := _ }) rfl (fun K hK => ?_) AllReadyH.nil
      go_simp
      go_at_call 87; refine (HFAR.out _).mono ?_
      rintro r V55 ⟨rfl, hB55⟩
      go_wp2_with fail
      have L55 := bt L54 hB55
      have M55 : Wb V55 Bx x := heap_keep hB55 M54
      have Y55a := Hb.call X54 hB55
      have Y55b := Hb.call Y54b hB55
      refine hK.out _ _ ⟨M55.bx.c0, M55.bx.c1, M55.bx.c2, M55.bx.c3, M55.bx.c4, M55.bx.c5⟩ (fun hH2 => ?_)
      clear hK K hHeld
      rename _ => hHeld
      try simp only [Act.put, List.setIfInBounds_toArray, List.set_cons_zero, List.set_cons_succ]
      refine wpAnyH_take (i := 5) (oi := { dst := some 14, op := _, type := _, pos := _, after := _, guard := _ }) (v := ?_) rfl (by kernel_rfl) (by kernel_rfl) (by kernel_rfl) (fun _ _ _ h => by cases h.1) (Or.inl ⟨by rfl, ?_⟩) (by assumption) ?_
      rotate_left
      · (intro w hSw; (try dsimp only at hSw); go_simp)
        first | done | with_reducible rfl
      try simp only [Act.put, List.setIfInBounds_toArray, List.set_cons_zero, List.set_cons_succ]
      refine wpAnyH_ready (rs := [7]) (by kernel_rfl) (by simp) ?_
      refine AllReadyH.cons (o := { dst := some 16, op := _, type := _, pos := _, after := _, guard := _ }) rfl (fun K hK => ?_) AllReadyH.nil
      go_simp
      go_at_call 87; refine (HFAR.out _).mono ?_
      rintro r V56 ⟨rfl, hB56⟩
      go_wp2_with fail
      have L56 := bt L55 hB56
      have M56 : Wb V56 Bx x := heap_keep hB56 M55
      have Y56a := Hb.call Y55a hB56
      have Y56b := Hb.call Y55b hB56
      refine hK.out _ _ ⟨M56.bx.c0, M56.bx.c1, M56.bx.c2, M56.bx.c3, M56.bx.c4, M56.bx.c5⟩ (fun hH2 => ?_)
      clear hK K hHeld
      rename _ => hHeld
      try simp only [Act.put, List.setIfInBounds_toArray, List.set_cons_zero, List.set_cons_succ]
      refine wpAnyH_take (i := 11) (oi := { dst := some 20, op := _, type := _, pos := _, after := _, guard := _ }) (v := ?_) rfl (by kernel_rfl) (by kernel_rfl) (by kernel_rfl) (fun _ _ _ h => by cases h.1) (Or.inl ⟨by rfl, ?_⟩) (by assumption) ?_
      rotate_left
      · (intro w hSw; (try dsimp only at hSw); go_simp)
        first | done | with_reducible rfl
      try simp only [Act.put, List.setIfInBounds_toArray, List.set_cons_zero, List.set_cons_succ]
      refine wpAnyH_ready (rs := [14]) (by kernel_rfl) (by simp) ?_
      refine AllReadyH.cons (o := { dst := none, op := _, type := _, pos := _, after := _, guard := _ }) rfl (fun K hK => ?_) AllReadyH.nil
      obtain ⟨⟨n0, n1, n2, n3, n4, n5, n6, n7⟩, f0, f1, f2, f3, f4, f5, f6, f7⟩ := row8 Y56a
      go_simp
      obtain ⟨V57, hV57⟩ : ∃ V', V' = put8 V56 b12_54 (there x) := ⟨_, rfl⟩
      change K _ (put8 V56 b12_54 (there x))
      rw [← hV57]
      have L57 : Below W.heap.size W V57 := by rw [hV57]; exact (L56).trans (put8_below (there x) (by omega))
      have M57 : Wb V57 Bx x := by rw [hV57]; exact put8_oth (there x) M56 (by omega)
      have Y57a : Hb V57 b12_54 (there x) := by rw [hV57]; exact Y56a.put (there x)
      have Y57b : Hb V57 b13_44 (zh) := by rw [hV57]; exact put8_oth (there x) Y56b (by omega)
      clear hV57 n0 n1 n2 n3 n4 n5 n6 n7 f0 f1 f2 f3 f4 f5 f6 f7
      refine hK.out _ _ ⟨M57.bx.c0, M57.bx.c1, M57.bx.c2, M57.bx.c3, M57.bx.c4, M57.bx.c5⟩ (fun hH2 => ?_)
      clear hK K hHeld
      rename _ => hHeld
      try simp only [Act.put, List.setIfInBounds_toArray, List.set_cons_zero, List.set_cons_succ]
      refine wpAnyH_ready (rs := [15]) (by kernel_rfl) (by simp) ?_
      refine AllReadyH.cons (o := { dst := none, op := _, type := _, pos := _, after := _, guard := _ }) rfl (fun K hK => ?_) AllReadyH.nil
      obtain ⟨⟨n0, n1, n2, n3, n4, n5, n6, n7⟩, f0, f1, f2, f3, f4, f5, f6, f7⟩ := row8 Y57b
      go_simp
      obtain ⟨V58, hV58⟩ : ∃ V', V' = put8 V57 b13_44 (back x) := ⟨_, rfl⟩
      change K _ (put8 V57 b13_44 (back x))
      rw [← hV58]
      have L58 : Below W.heap.size W V58 := by rw [hV58]; exact (L57).trans (put8_below (back x) (by omega))
      have M58 : Wb V58 Bx x := by rw [hV58]; exact put8_oth (back x) M57 (by omega)
      have Y58a : Hb V58 b12_54 (there x) := by rw [hV58]; exact put8_oth (back x) Y57a (by omega)
      have Y58b : Hb V58 b13_44 (back x) := by rw [hV58]; exact Y57b.put (back x)
      clear hV58 n0 n1 n2 n3 n4 n5 n6 n7 f0 f1 f2 f3 f4 f5 f6 f7
      refine hK.out _ _ ⟨M58.bx.c0, M58.bx.c1, M58.bx.c2, M58.bx.c3, M58.bx.c4, M58.bx.c5⟩ (fun hH2 => ?_)
      clear hK K hHeld
      rename _ => hHeld
      try simp only [Act.put, List.setIfInBounds_toArray, List.set_cons_zero, List.set_cons_succ]
      refine wpAnyH_done (by kernel_rfl) ?_ _
      exact ⟨rfl, b12_54, b13_44, rfl, L58, by assumption, Y58a, Y58b⟩
    case rest =>
      rintro e a V ⟨rfl, b4, b5, rfl, hBV, hl5, h4, h5⟩
      have HB := Lib.hid hBV
      have k1 : Boxed V W00.heap.size 95 (.func (.yield l0) #[] #[]) := heap_keep hBV HQ1.out
      have d1 := k1.cell
      have HJV : Hid (J (hq pre) V) := Lib.hid (own_below' HJ.out HQ2.out hBV)
      have HH4 := Lib.hid h4
      have HH5 := Lib.hid h5
      have hw5 : ¬ F b5 := fun h => by have := HFL.out _ h; have := HGE.out; omega
      have hw1 : ¬ F W00.heap.size := fun h => by have := HFL.out _ h; omega
      have HKW : Hid (KeepsFrom W0.heap.size W V) := Lib.hid ⟨hBV.size, fun k o _ hk _ => heap_keep hBV hk⟩
      have HKV : Hid (Kc F w V) := Lib.hid (HQ3.out.trans (Kc.of hBV))
      have HKWV : Hid (Kc F W V) := Lib.hid (Kc.of hBV)
      have hgeV : W0.heap.size ≤ V.heap.size := Nat.le_trans HGE.out hBV.size
      obtain ⟨⟨n0, n1, n2, n3, n4, n5, n6, n7⟩, -⟩ := row8 h4
      obtain ⟨fn, tmps, assign, body, hy, hR⟩ := HY.out (hq pre) ⟨there x, there_ok hx.2⟩ V HJV.out (by have := HPL.out; have := HLT.out; omega)
      have HEE := Lib.hid HE.out
      clear hBV h4 h5 k1
      unfold there at hy n0 n1 n2 n3 n4 n5 n6 n7
      dsimp only at hy n0 n1 n2 n3 n4 n5 n6 n7
      gi_wp2
      refine ⟨fun h => (by cases h), ?_⟩
      refine (round_in l hR).mono ?_
      rintro e V3 (⟨rfl, hJ3, hk3, hkf3⟩ | ⟨rfl, hx3, hkf3⟩)
      · have g5 : Hb V3 b5 (back x) := hk3.same _ _ HH5.out rfl hw5
        have g1 : Boxed V3 W00.heap.size 95 (.func (.yield l0) #[] #[]) := hk3.same _ _ (heap_keep HB.out HQ1.out) rfl hw1
        obtain ⟨⟨m0, m1, m2, m3, m4, m5, m6, m7⟩, -⟩ := row8 g5
        have e1 := g1.cell
        have HJ3 := Lib.hid hJ3
        have HK3 : Hid (Kc F w V3) := Lib.hid (HKV.out.trans hk3)
        have HKW3 : Hid (Kc F W V3) := Lib.hid (HKWV.out.trans hk3)
        have hge3 : W0.heap.size ≤ V3.heap.size := Nat.le_trans hgeV hk3.size
        have HKF3 : Hid (KeepsFrom W0.heap.size W V3) := Lib.hid (HKW.out.trans (kf_mono hkf3 hle0))
        have HG1 := Lib.hid g1
        clear hR hy hJ3 hk3 hkf3 n0 n1 n2 n3 n4 n5 n6 n7 d1 g5 g1
        unfold back at m0 m1 m2 m3 m4 m5 m6 m7
        dsimp only at m0 m1 m2 m3 m4 m5 m6 m7
        by_cases hf12 : far x < 12
        · obtain ⟨fn2, tmps2, assign2, body2, hy2, hR2⟩ := HY.out (hq pre ++ [⟨there x, there_ok hx.2⟩]) ⟨back x, back_ok hx.2 hf12⟩ V3 HJ3.out (by rw [List.length_append, List.length_singleton]; have := HPL.out; have := HLT.out; omega)
          have HEQ : Hid (hq (pre ++ [⟨x, hx⟩]) = hq pre ++ [⟨there x, there_ok hx.2⟩] ++ [⟨back x, back_ok hx.2 hf12⟩]) := Lib.hid (by rw [HSN.out, HEE.out, dif_pos hf12]; simp)
          unfold back at hy2
          dsimp only at hy2
          have HHY := Lib.hid HEQ.out
          gi_wp2
          refine ⟨fun h => (by cases h), ?_⟩
          refine (round_in l hR2).mono ?_
          rintro e V4 (⟨rfl, hJ4, hk4, hkf4⟩ | ⟨rfl, hx4, hkf4⟩)
          · have HJ4 : Hid (J (hq (pre ++ [⟨x, hx⟩])) V4) := Lib.hid (by rw [HEQ.out]; exact hJ4)
            have HK4 : Hid (Kc F w V4) := Lib.hid (HK3.out.trans hk4)
            have HKW4 : Hid (Kc F W V4) := Lib.hid (HKW3.out.trans hk4)
            have HKF4 : Hid (KeepsFrom W0.heap.size W V4) := Lib.hid (HKF3.out.trans (kf_mono hkf4 hle0))
            have HG4 : Hid (Boxed V4 W00.heap.size 95 (.func (.yield l0) #[] #[])) := Lib.hid (hk4.same _ _ HG1.out rfl hw1)
            have hge4 : W0.heap.size ≤ V4.heap.size := Nat.le_trans hge3 hk4.size
            clear hR2 hy2 hJ4 hk4 hkf4
            gi_wp2
            exact ⟨HKF4.out, HKW4.out, ⟨⟨HG4.out, HJ4.out⟩, HK4.out, hge4⟩⟩
          · have HX4 := Lib.hid hx4
            have HKF4 : Hid (KeepsFrom W0.heap.size W V4) := Lib.hid (HKF3.out.trans (kf_mono hkf4 hle0))
            clear hR2 hy2 hx4 hkf4
            gi_wp2
            exact ⟨HKF4.out, rfl, _, HX4.out⟩
        · have HJ4 : Hid (J (hq (pre ++ [⟨x, hx⟩])) V3) := Lib.hid (by rw [HSN.out, HEE.out, dif_neg hf12]; exact HJ3.out)
          gi_wp2
          refine ⟨fun _ h => (by cases h), ?_⟩
          gi_wp2
          exact ⟨HKF3.out, HKW3.out, ⟨⟨HG1.out, HJ4.out⟩, HK3.out, hge3⟩⟩
      · have HX3 := Lib.hid hx3
        have HKF3 : Hid (KeepsFrom W0.heap.size W V3) := Lib.hid (HKW.out.trans (kf_mono hkf3 hle0))
        clear hR hy hx3 hkf3
        gi_wp2
        all_goals first
          | exact absurd ‹some undef = some (Value.bool _)› (by simp [undef])
          | (refine ⟨fun _ h => (by cases h), ?_⟩; gi_wp2; exact ⟨HKF3.out, rfl, _, HX3.out⟩)
  case done =>
    rintro D zs W hD rfl ⟨⟨q1, q2⟩, q3, hge⟩ hK
    gi_wp2
    refine ⟨by simp, .inl ⟨_, _, rfl, run_takeDeferred hK, ?_⟩⟩
    exact ⟨_, results_none rfl _ _ _, ⟨_, rfl⟩, .inl ⟨_, rfl, HJ.out.putObj _ q2 (by omega) hK rfl⟩⟩
  case stop =>
    rintro D c pre W hD _ ⟨rfl, q, h2⟩ hK
    gi_wp2
    refine ⟨by simp, .inl ⟨_, _, rfl, run_takeDeferred hK, ?_⟩⟩
    exact ⟨_, results_none rfl _ _ _, ⟨_, rfl⟩, .inr ⟨_, trivial, HJX.out.putObj _ h2 (by omega) hK rfl⟩⟩
end Q
end Go.Proofs.Ytojflmejkigdiaa
