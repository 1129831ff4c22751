/-
  The landed Check.
-/
import Derived.Test.YtobbnbelacncjaaQChk
namespace Go.Proofs.Ytobbnbelacncjaa
open Go.RowKit Go.Shelf
namespace Q
open H
set_option linter.unusedVariables false
set_option linter.unusedSimpArgs false
set_option maxRecDepth 100000
/-- What Check finds. -/
def chk (T : List Wn) : Int := if 200 < T.length then 2 else if (T.find? fun x => !fm x).isSome then 5 else if srt T = false then 23 else if ovl T then 23 else 0
end Q
end Go.Proofs.Ytobbnbelacncjaa
