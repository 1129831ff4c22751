/-
  The program's table of package crc: what the row's list of variables gives; a world for the witness.
-/
import Derived.Test.YtpkhbglmbdpodaaDoorCards
import Derived.Test.YtpkhbglmbdpodaaDoorTie
import Derived.Test.YtpkhbglmbdpodaaDoorOpen
import Derived.Deep.DeepHandedRow
import Derived.Lib.LaidTab
namespace Go.Proofs.YtpkhbglmbdpodaaDoor
open Go.ChangeShapes Go.WideShapes Go.ChangeAt Go.RowKit
namespace C
open H
def tabL : List Int := [0, 498536548, 997073096, 651767980, 1994146192, 1802195444, 1303535960, 1342533948, 3988292384, 4027552580, 3604390888, 3412177804, 2607071920, 2262029012, 2685067896, 3183342108]
theorem gTab : Tryd.prog.globalNamed "perigee/crc.halves" = some 0 := by kernel_rfl
theorem gTabType : (Tryd.prog.globals[0]?).map (·.type) = some 72 := by kernel_rfl
theorem cells16 : Tryd.prog.cellsOf 72 = 16 := by kernel_rfl
theorem cells32 : Tryd.prog.cellsOf 23 = 1 := by kernel_rfl
/-- The table's cells. -/
def Tab (w : World) : Prop := ∀ i, i < 16 → w.cell? ⟨0, i, none⟩ = some (.int .u32 (tabL.getD i 0))
theorem tab_of_laid {W : World} (h : laidMetH Tryd.prog [("perigee/crc.halves", Rows.laid_perigee_crc_halves)] W) : Tab W := fun i hi =>
  (Lib.tabIs_of_head (rest := []) (zs := tabL) gTab gTabType Tryd.underlying72 Tryd.underlying23 cells32 cells16 h).cell gTab i hi
theorem Tab.below {w w' : World} {B : Nat} (h : Tab w) (hB : 0 < B) (hb : Below B w w') : Tab w' := fun i hi => (hb.cell (p := ⟨0, i, none⟩) hB).trans (h i hi)
theorem Tab.pos {w : World} (h : Tab w) : 0 < w.heap.size := cell_lt (a := ⟨0, 0, none⟩) (h 0 (by decide))
noncomputable def laidWorld (os : Os) : World :=
  { World.holding Tryd.prog os ⟨#[], #[], []⟩ with heap := (World.holding Tryd.prog os ⟨#[], #[], []⟩).heap.modify 0 fun
      | .cells _ t frozen => .cells (tabL.map (Value.int .u32)).toArray t frozen
      | o => o }
theorem laid_met (os : Os) (args : Array Value) : laidMet Tryd.prog [("perigee/crc.halves", Rows.laid_perigee_crc_halves)] ((laidWorld os).forCall (fun _ _ => 0) ⟨#[], args, []⟩).memory :=
  laidMet_of_run' 8 (by kernel_rfl) (by kernel_rfl)
end C
end Go.Proofs.YtpkhbglmbdpodaaDoor
