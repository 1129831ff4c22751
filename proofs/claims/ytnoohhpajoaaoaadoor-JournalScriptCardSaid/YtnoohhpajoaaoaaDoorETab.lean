/-
  The program's table of package ecc: what the row's list of variables gives; a world for the witness.
-/
import Derived.Test.YtnoohhpajoaaoaaDoorCards
import Derived.Test.YtnoohhpajoaaoaaDoorTie
import Derived.Test.YtnoohhpajoaaoaaDoorOpen
import Derived.Deep.DeepHandedRow
import Derived.Lib.LaidTab
namespace Go.Proofs.YtnoohhpajoaaoaaDoor
open Go.ChangeShapes Go.WideShapes Go.ChangeAt Go.RowKit
namespace E
open H
def tabL : List Int := [2, 4, 5, 6, 8, 9, 10, 11, 12, 13, 14, 16, 17, 18, 19, 20, 21, 22, 23, 24, 25, 26, 27, 28, 29, 30, 32, 33, 34, 35, 36, 37]
theorem gTab : Tryd.prog.globalNamed "perigee/ecc.dataBits" = some 0 := by kernel_rfl
theorem gTabType : (Tryd.prog.globals[0]?).map (·.type) = some 94 := by kernel_rfl
theorem cells32 : Tryd.prog.cellsOf 94 = 32 := by kernel_rfl
theorem cells1 : Tryd.prog.cellsOf 3 = 1 := by kernel_rfl
/-- The table's cells. -/
def Tab (w : World) : Prop := ∀ i, i < 32 → w.cell? ⟨0, i, none⟩ = some (.int .i64 (tabL.getD i 0))
theorem tab_of_laid {W : World} (h : laidMetH Tryd.prog [("perigee/ecc.dataBits", Rows.laid_perigee_ecc_dataBits)] W) : Tab W := fun i hi =>
  (Lib.tabIs_of_head (rest := []) (zs := tabL) gTab gTabType Tryd.underlying94 Tryd.underlying3 cells1 cells32 h).cell gTab i hi
theorem Tab.below {w w' : World} {B : Nat} (h : Tab w) (hB : 0 < B) (hb : Below B w w') : Tab w' := fun i hi => (hb.cell (p := ⟨0, i, none⟩) hB).trans (h i hi)
theorem Tab.pos {w : World} (h : Tab w) : 0 < w.heap.size := cell_lt (a := ⟨0, 0, none⟩) (h 0 (by decide))
noncomputable def laidWorld (os : Os) : World :=
  { World.holding Tryd.prog os ⟨#[], #[], []⟩ with heap := (World.holding Tryd.prog os ⟨#[], #[], []⟩).heap.modify 0 fun
      | .cells _ t frozen => .cells (tabL.map (Value.int .i64)).toArray t frozen
      | o => o }
theorem laid_met (os : Os) (args : Array Value) : laidMet Tryd.prog [("perigee/ecc.dataBits", Rows.laid_perigee_ecc_dataBits)] ((laidWorld os).forCall (fun _ _ => 0) ⟨#[], args, []⟩).memory :=
  laidMet_of_run' 8 (by kernel_rfl) (by kernel_rfl)
end E
end Go.Proofs.YtnoohhpajoaaoaaDoor
