/-
  Arrays that lie in a block of their own: stores of a whole row. Nothing here speaks of one program.
-/
import Derived.Test.YthcehhonahgfmaaDoorKit
import Derived.Laws.Rows
import Derived.Laws.Tables
import Derived.Laws.CopyOwn
import Derived.Lib.SmallJoins
import Derived.Stop.BytesEq
import Derived.Laws.StructEq
namespace Go.Proofs.YthcehhonahgfmaaDoor
open Go.RowKit
namespace H
theorem run_store_row {P : Program} {w : World} {g : Nat} {t : TypeId} {cur cs : Array Value} (hg : w.heap[g]? = some (.cells cur t (0, 0))) (hl : cs.size = cur.size) (h1 : ∀ v ∈ cs.toList, v.oneCell' = true) :
    (storeCells ⟨g, 0, none⟩ cs.toList).run P w = .ok () (w.setRow g cs) := by
  have h := run_storeCells_from (P := P) g t cs.toList 0 cur w hg (by simp [hl]) h1
  simpa using h
theorem int_cells (k : IntKind) (zs : List Int) : ∀ v ∈ ((zs.map (Value.int k)).toArray).toList, v.oneCell' = true := by
  intro v hv
  simp only [List.mem_map] at hv
  obtain ⟨z, _, rfl⟩ := hv
  rfl
theorem free_row {w : World} {g i : Nat} {t : TypeId} {cs : Array Value} (hg : w.heap[g]? = some (.cells cs t (0, 0))) : w.frozen? ⟨g, i, none⟩ = false := by simp [World.frozen?, hg]
theorem exec_load_row {P : Program} {ev : Operand → Value} {o : Oper} {w : World} (ty : TypeId) (x : Operand) (ho : o.op = .load ty x)
    (g : Nat) (hx : ev x = .pointer (some ⟨g, 0, none⟩)) (t : TypeId) (cs : Array Value) (fr : Nat × Nat) (d : TypeDesc) (hg : w.heap[g]? = some (.cells cs t fr))
    (hu : P.underlying ty = some d) (hd : (match d with | .struct _ | .array _ _ => true | _ => false) = true) (hi : (P.info? ty).map (·.size) = some cs.size) :
    (execOp ev o).run P w = .ok (Next.value (.agg cs)) w := by
  unfold execOp
  simp only [ho, hx, Instr.loadAt, Instr.sureAddr, Sem.run_bind, Sem.run_pure, Result.andThen_ok, run_loadVar_row w g t ty cs fr d hg hu hd hi]
theorem exec_load_cells {P : Program} {ev : Operand → Value} {o : Oper} {w : World} (ty : TypeId) (x : Operand) (ho : o.op = .load ty x)
    (p : Addr) (hx : ev x = .pointer (some p)) (cs : List Value) (hc : ∀ j v, cs[j]? = some v → w.cell? (p.add j) = some v) (d : TypeDesc)
    (hu : P.underlying ty = some d) (hd : (match d with | .struct _ | .array _ _ => true | _ => false) = true) (hi : (P.info? ty).map (·.size) = some cs.length) :
    (execOp ev o).run P w = .ok (Next.value (.agg cs.toArray)) w := by
  have hl := run_loadCells_list (P := P) w p cs hc
  have hld : (loadVar ty p).run P w = .ok (.agg cs.toArray) w := by
    cases hq : P.info? ty with
    | none => simp [hq] at hi
    | some i =>
      have hs : i.size = cs.length := by simpa [hq] using hi
      have hagg : (isAgg ty).run P w = .ok true w := by
        unfold isAgg
        rw [Sem.run_bind, run_underlying hu w]
        cases d <;> simp_all
      simp [loadVar, Sem.run_bind, hagg, sizeOf, typeInfo, hq, hs, hl]
  unfold execOp
  simp only [ho, hx, Instr.loadAt, Instr.sureAddr, Sem.run_bind, Sem.run_pure, Result.andThen_ok, hld]
/-- Two arrays of bytes, compared. -/
theorem run_neq_arr {P : Program} (w : World) (t e : TypeId) (n : Nat) (ht : P.underlying t = some (.array n e)) (he : P.underlying e = some (.int .u8)) (hsz : ∀ w, (sizeOf e).run P w = .ok 1 w)
    {xs ys : List Int} (hx : xs.length = n) (hy : ys.length = n) (bx : Byt xs) (bb : Byt ys) :
    (binOp .neq t (.agg (xs.map (Value.int .u8)).toArray) (.agg (ys.map (Value.int .u8)).toArray)).run P w = .ok (.bool (!decide (xs = ys))) w := by
  have key : ∀ l : List Int, Byt l → l.map (Value.int .u8) = (l.map fun z => UInt8.ofNat z.toNat).map Extern.Stop.cell := fun l hl => by
    rw [List.map_map]
    refine List.map_congr_left fun z hz => ?_
    have := hl z hz
    have e : Int.ofNat (UInt8.ofNat z.toNat).toNat = z := by rw [UInt8.toNat_ofNat']; simp only [Int.ofNat_eq_natCast]; omega
    show Value.int .u8 z = Value.int .u8 _
    rw [e]
  rw [key xs bx, key ys bb, run_neq_struct, run_equalIn_bytes w 9998 t e n ht he hsz _ _ (by rw [List.length_map]; exact hx) (by rw [List.length_map]; exact hy)]
  have back : ∀ l : List Int, Byt l → (l.map fun z => UInt8.ofNat z.toNat).map (fun u : UInt8 => (u.toNat : Int)) = l := fun l hl => by
    rw [List.map_map]
    conv => rhs; rw [← List.map_id l]
    refine List.map_congr_left fun x hx => ?_
    have := hl x hx
    simp only [Function.comp_apply, id, UInt8.toNat_ofNat']
    omega
  show Result.ok (Value.bool (!_)) w = _
  congr 3
  by_cases h : xs = ys
  · rw [h, decide_eq_true rfl]; exact beq_self_eq_true _
  · rw [decide_eq_false h]
    refine beq_eq_false_iff_ne.2 fun e => h ?_
    rw [← back xs bx, ← back ys bb, e]
theorem exec_binop {P : Program} {ev : Operand → Value} {o : Oper} {w w' : World} {r : Value} (b : BinOp) (t u : TypeId) (x y : Operand) (ho : o.op = .binOp b t x y u) (vx vy : Value) (hx : ev x = vx) (hy : ev y = vy)
    (hg : (eqGuard b t x y vx vy).run P w = .ok () w) (h : (binOp b t vx vy).run P w = .ok r w') :
    (execOp ev o).run P w = .ok (Next.value r) w' := by
  unfold execOp
  simp only [ho, hx, hy, Sem.run_bind, hg, Result.andThen_ok, h, Sem.run_pure]
/-- Two results: a struct or an array that lies in a block of its own, and a slot. -/
theorem results_row_tmp {P : Program} {fn : Func} {p u : Tmp} {ty : TypeId} (h : fn.results = #[.cell p ty, .tmp u]) (tmps : Array Value) (w : World) (g : Nat) (t : TypeId) (cs : Array Value) (fr : Nat × Nat) (d : TypeDesc) (v : Value)
    (hp : tmps.getD p undef = .pointer (some ⟨g, 0, none⟩)) (hv : tmps.getD u undef = v) (hg : w.heap[g]? = some (.cells cs t fr))
    (hu : P.underlying ty = some d) (hd : (match d with | .struct _ | .array _ _ => true | _ => false) = true) (hi : (P.info? ty).map (·.size) = some cs.size) :
    (results fn tmps).run P w = .ok (.tuple #[.agg cs, v]) w := by
  have hp' : tmps[p]?.getD undef = .pointer (some ⟨g, 0, none⟩) := by simpa using hp
  have hv' : tmps[u]?.getD undef = v := by simpa using hv
  simp [results, h, hp', hv', asAddr, run_loadVar_row w g t ty cs fr d hg hu hd hi]
/-- Three results: a struct that lies in a block of its own, and two slots. -/
theorem results_row_tmp2 {P : Program} {fn : Func} {p u q : Tmp} {ty : TypeId} (h : fn.results = #[.cell p ty, .tmp u, .tmp q]) (tmps : Array Value) (w : World) (g : Nat) (t : TypeId) (cs : Array Value) (fr : Nat × Nat) (d : TypeDesc) (v x : Value)
    (hp : tmps.getD p undef = .pointer (some ⟨g, 0, none⟩)) (hv : tmps.getD u undef = v) (hx : tmps.getD q undef = x) (hg : w.heap[g]? = some (.cells cs t fr))
    (hu : P.underlying ty = some d) (hd : (match d with | .struct _ | .array _ _ => true | _ => false) = true) (hi : (P.info? ty).map (·.size) = some cs.size) :
    (results fn tmps).run P w = .ok (.tuple #[.agg cs, v, x]) w := by
  have hp' : tmps[p]?.getD undef = .pointer (some ⟨g, 0, none⟩) := by simpa using hp
  have hv' : tmps[u]?.getD undef = v := by simpa using hv
  have hx' : tmps[q]?.getD undef = x := by simpa using hx
  simp [results, h, hp', hv', hx', asAddr, run_loadVar_row w g t ty cs fr d hg hu hd hi]
theorem if_wanted {b : Bool} {A E : Prop} (h : b = true) (a : A) : if b = true then A else E := by
  rw [if_pos h]
  exact a
theorem if_unwanted {b : Bool} {A E : Prop} (h : b = false) (e : E) : if b = true then A else E := by
  rw [h, if_neg (by decide)]
  exact e
/-- An operation whose run is known, in a region that does not draw. -/
theorem wpList_yield {P : Program} {ops : Array Oper} {rest : List Oper} {o : Oper} {a : Act} {w : World} {Q : Exit → Act → World → Prop} {v : Value} (hg : o.guard = none) (h : (execOp a.eval o).run P w = .ok (Next.value v) w) (k : wpList P ops Q rest (a.put o.dst v) w) : wpList P ops Q (o :: rest) a w :=
  wpList_plain hg fun K hK => by
    unfold Oper.wp
    rw [h]
    exact hK _ _ k
end H
end Go.Proofs.YthcehhonahgfmaaDoor
