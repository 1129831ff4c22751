/-
  No cell of these rows narrows 'for every input' (looked for: loops, veiled, ifaces, maps, wideKeys, modest, calm, conditions, laid).
  DERIVED. THE GIVEN ROWS OF THIS SEAT. 11 by the template 'for every input the law returns true; each argument reads behind the call as it read before'; 0 by the template 'total and deterministic' (their statements: YtlmbpbhdbgadjaaTotals.lean).
  GIVEN WITH THE SEED: the statements are not yours to turn. If you find one false, say at which input.
  Laid BY PROGRAM, IN A SANDBOX (cutbox-rows.mjs): the forced cells as the released guide's own fill.sh prints them over the translation 470aff6a4456746c… (all of the seat's roots in one cut). By AI agents, Wed Nov 11 2026. No macro, syntax, notation, axiom, sorry.
-/
import Derived.Test.YtlmbpbhdbgadjaaChecked
import GoSem.Claim
import GoSem.ClaimJoined
import GoSem.ClaimMapViews
import Derived.JoinedTies
import Derived.KernelRfl
namespace Go.Proofs.Ytlmbpbhdbgadjaa
/- THE CELL 'sum', in the pinned program and in every row, IS THE sha256 OF THE DUMP (.gsa) THAT YtlmbpbhdbgadjaaProg.lean LOADS. Nothing in Lean hashes anything: it is a label: what it is worth is what the hold of that sum in a sandbox is worth. -/
noncomputable def Try.pinned : Pinned := { name := "ytlmbpbhdbgadjaa", sum := "470aff6a4456746c86da970eb692db3c1606a67572804dc5ef75f665e4846a4e", checked := Try.checked }
namespace Rows
def none {H : Type} : Left H := { results := [], args := [] }

/-- 'perigeelaw08.ClockAdvances': WHATEVER THE INPUT: true; the input reads as it did. -/
def clockAdvancesSpec : ChangeSpec := { name := "clockAdvances", fn := fun _ => fun
  | [d] => { results := [.lit (.bool true)], args := [d] }
  | _ => none }
def clockAdvancesRow : OpenClaim := { program := "ytlmbpbhdbgadjaa", sum := "470aff6a4456746c86da970eb692db3c1606a67572804dc5ef75f665e4846a4e", func := "perigee/perigeelaw08.ClockAdvances", spec := "clockAdvances", unfollowed := true, recurses := true, apart := false }
def ClockAdvancesSaid : Prop := clockAdvancesRow.holds Try.pinned (OpenSpec.ofChange clockAdvancesSpec)

/-- ITS FALSE NEIGHBOUR: 'it returns false'. Refute it at one input. -/
def clockAdvancesWrong : ChangeSpec := { name := "clockAdvances", fn := fun _ => fun
  | [d] => { results := [.lit (.bool false)], args := [d] }
  | _ => none }
def ClockAdvancesWrongFalsely : Prop := clockAdvancesRow.holds Try.pinned (OpenSpec.ofChange clockAdvancesWrong)

/-- 'perigeelaw08.ClockCorrelates': WHATEVER THE INPUT: true; the input reads as it did. -/
def clockCorrelatesSpec : ChangeSpec := { name := "clockCorrelates", fn := fun _ => fun
  | [d] => { results := [.lit (.bool true)], args := [d] }
  | _ => none }
def clockCorrelatesRow : OpenClaim := { program := "ytlmbpbhdbgadjaa", sum := "470aff6a4456746c86da970eb692db3c1606a67572804dc5ef75f665e4846a4e", func := "perigee/perigeelaw08.ClockCorrelates", spec := "clockCorrelates", unfollowed := true, recurses := true, apart := false }
def ClockCorrelatesSaid : Prop := clockCorrelatesRow.holds Try.pinned (OpenSpec.ofChange clockCorrelatesSpec)

/-- ITS FALSE NEIGHBOUR: 'it returns false'. Refute it at one input. -/
def clockCorrelatesWrong : ChangeSpec := { name := "clockCorrelates", fn := fun _ => fun
  | [d] => { results := [.lit (.bool false)], args := [d] }
  | _ => none }
def ClockCorrelatesWrongFalsely : Prop := clockCorrelatesRow.holds Try.pinned (OpenSpec.ofChange clockCorrelatesWrong)

/-- 'perigeelaw08.ClockUnwraps': WHATEVER THE INPUT: true; the input reads as it did. -/
def clockUnwrapsSpec : ChangeSpec := { name := "clockUnwraps", fn := fun _ => fun
  | [d1, d2] => { results := [.lit (.bool true)], args := [d1, d2] }
  | _ => none }
def clockUnwrapsRow : OpenClaim := { program := "ytlmbpbhdbgadjaa", sum := "470aff6a4456746c86da970eb692db3c1606a67572804dc5ef75f665e4846a4e", func := "perigee/perigeelaw08.ClockUnwraps", spec := "clockUnwraps", unfollowed := true, recurses := true, apart := false }
def ClockUnwrapsSaid : Prop := clockUnwrapsRow.holds Try.pinned (OpenSpec.ofChange clockUnwrapsSpec)

/-- ITS FALSE NEIGHBOUR: 'it returns false'. Refute it at one input. -/
def clockUnwrapsWrong : ChangeSpec := { name := "clockUnwraps", fn := fun _ => fun
  | [d1, d2] => { results := [.lit (.bool false)], args := [d1, d2] }
  | _ => none }
def ClockUnwrapsWrongFalsely : Prop := clockUnwrapsRow.holds Try.pinned (OpenSpec.ofChange clockUnwrapsWrong)

/-- 'perigeelaw08.ClockJudges': WHATEVER THE INPUT: true; the input reads as it did. -/
def clockJudgesSpec : ChangeSpec := { name := "clockJudges", fn := fun _ => fun
  | [d1, d2, d3, d4] => { results := [.lit (.bool true)], args := [d1, d2, d3, d4] }
  | _ => none }
def clockJudgesRow : OpenClaim := { program := "ytlmbpbhdbgadjaa", sum := "470aff6a4456746c86da970eb692db3c1606a67572804dc5ef75f665e4846a4e", func := "perigee/perigeelaw08.ClockJudges", spec := "clockJudges", unfollowed := true, recurses := true, apart := false }
def ClockJudgesSaid : Prop := clockJudgesRow.holds Try.pinned (OpenSpec.ofChange clockJudgesSpec)

/-- ITS FALSE NEIGHBOUR: 'it returns false'. Refute it at one input. -/
def clockJudgesWrong : ChangeSpec := { name := "clockJudges", fn := fun _ => fun
  | [d1, d2, d3, d4] => { results := [.lit (.bool false)], args := [d1, d2, d3, d4] }
  | _ => none }
def ClockJudgesWrongFalsely : Prop := clockJudgesRow.holds Try.pinned (OpenSpec.ofChange clockJudgesWrong)

/-- 'perigeelaw08.ClockCivil': WHATEVER THE INPUT: true; the input reads as it did. -/
def clockCivilSpec : ChangeSpec := { name := "clockCivil", fn := fun _ => fun
  | [d1, d2, d3] => { results := [.lit (.bool true)], args := [d1, d2, d3] }
  | _ => none }
def clockCivilRow : OpenClaim := { program := "ytlmbpbhdbgadjaa", sum := "470aff6a4456746c86da970eb692db3c1606a67572804dc5ef75f665e4846a4e", func := "perigee/perigeelaw08.ClockCivil", spec := "clockCivil", unfollowed := true, recurses := true, apart := false }
def ClockCivilSaid : Prop := clockCivilRow.holds Try.pinned (OpenSpec.ofChange clockCivilSpec)

/-- ITS FALSE NEIGHBOUR: 'it returns false'. Refute it at one input. -/
def clockCivilWrong : ChangeSpec := { name := "clockCivil", fn := fun _ => fun
  | [d1, d2, d3] => { results := [.lit (.bool false)], args := [d1, d2, d3] }
  | _ => none }
def ClockCivilWrongFalsely : Prop := clockCivilRow.holds Try.pinned (OpenSpec.ofChange clockCivilWrong)

/-- 'perigeelaw08.ClockChecks': WHATEVER THE INPUT: true; the input reads as it did. -/
def clockChecksSpec : ChangeSpec := { name := "clockChecks", fn := fun _ => fun
  | [d1, d2] => { results := [.lit (.bool true)], args := [d1, d2] }
  | _ => none }
def clockChecksRow : OpenClaim := { program := "ytlmbpbhdbgadjaa", sum := "470aff6a4456746c86da970eb692db3c1606a67572804dc5ef75f665e4846a4e", func := "perigee/perigeelaw08.ClockChecks", spec := "clockChecks", unfollowed := true, recurses := true, apart := false }
def ClockChecksSaid : Prop := clockChecksRow.holds Try.pinned (OpenSpec.ofChange clockChecksSpec)

/-- ITS FALSE NEIGHBOUR: 'it returns false'. Refute it at one input. -/
def clockChecksWrong : ChangeSpec := { name := "clockChecks", fn := fun _ => fun
  | [d1, d2] => { results := [.lit (.bool false)], args := [d1, d2] }
  | _ => none }
def ClockChecksWrongFalsely : Prop := clockChecksRow.holds Try.pinned (OpenSpec.ofChange clockChecksWrong)

/-- 'perigeelaw08.ClockSound': WHATEVER THE INPUT: true; the input reads as it did. -/
def clockSoundSpec : ChangeSpec := { name := "clockSound", fn := fun _ => fun
  | [d1, d2, d3, d4] => { results := [.lit (.bool true)], args := [d1, d2, d3, d4] }
  | _ => none }
def clockSoundRow : OpenClaim := { program := "ytlmbpbhdbgadjaa", sum := "470aff6a4456746c86da970eb692db3c1606a67572804dc5ef75f665e4846a4e", func := "perigee/perigeelaw08.ClockSound", spec := "clockSound", unfollowed := true, recurses := true, apart := false }
def ClockSoundSaid : Prop := clockSoundRow.holds Try.pinned (OpenSpec.ofChange clockSoundSpec)

/-- ITS FALSE NEIGHBOUR: 'it returns false'. Refute it at one input. -/
def clockSoundWrong : ChangeSpec := { name := "clockSound", fn := fun _ => fun
  | [d1, d2, d3, d4] => { results := [.lit (.bool false)], args := [d1, d2, d3, d4] }
  | _ => none }
def ClockSoundWrongFalsely : Prop := clockSoundRow.holds Try.pinned (OpenSpec.ofChange clockSoundWrong)

/-- 'perigeelaw08.ClockSplits': WHATEVER THE INPUT: true; the input reads as it did. -/
def clockSplitsSpec : ChangeSpec := { name := "clockSplits", fn := fun _ => fun
  | [d] => { results := [.lit (.bool true)], args := [d] }
  | _ => none }
def clockSplitsRow : OpenClaim := { program := "ytlmbpbhdbgadjaa", sum := "470aff6a4456746c86da970eb692db3c1606a67572804dc5ef75f665e4846a4e", func := "perigee/perigeelaw08.ClockSplits", spec := "clockSplits", unfollowed := true, recurses := true, apart := false }
def ClockSplitsSaid : Prop := clockSplitsRow.holds Try.pinned (OpenSpec.ofChange clockSplitsSpec)

/-- ITS FALSE NEIGHBOUR: 'it returns false'. Refute it at one input. -/
def clockSplitsWrong : ChangeSpec := { name := "clockSplits", fn := fun _ => fun
  | [d] => { results := [.lit (.bool false)], args := [d] }
  | _ => none }
def ClockSplitsWrongFalsely : Prop := clockSplitsRow.holds Try.pinned (OpenSpec.ofChange clockSplitsWrong)

/-- 'perigeelaw08.ClockOrder': WHATEVER THE INPUT: true; the input reads as it did. -/
def clockOrderSpec : ChangeSpec := { name := "clockOrder", fn := fun _ => fun
  | [d1, d2] => { results := [.lit (.bool true)], args := [d1, d2] }
  | _ => none }
def clockOrderRow : OpenClaim := { program := "ytlmbpbhdbgadjaa", sum := "470aff6a4456746c86da970eb692db3c1606a67572804dc5ef75f665e4846a4e", func := "perigee/perigeelaw08.ClockOrder", spec := "clockOrder", unfollowed := true, recurses := true, apart := false }
def ClockOrderSaid : Prop := clockOrderRow.holds Try.pinned (OpenSpec.ofChange clockOrderSpec)

/-- ITS FALSE NEIGHBOUR: 'it returns false'. Refute it at one input. -/
def clockOrderWrong : ChangeSpec := { name := "clockOrder", fn := fun _ => fun
  | [d1, d2] => { results := [.lit (.bool false)], args := [d1, d2] }
  | _ => none }
def ClockOrderWrongFalsely : Prop := clockOrderRow.holds Try.pinned (OpenSpec.ofChange clockOrderWrong)

/-- 'perigeelaw08.ClockWindows': WHATEVER THE INPUT: true; the input reads as it did. -/
def clockWindowsSpec : ChangeSpec := { name := "clockWindows", fn := fun _ => fun
  | [d1, d2, d3, d4] => { results := [.lit (.bool true)], args := [d1, d2, d3, d4] }
  | _ => none }
def clockWindowsRow : OpenClaim := { program := "ytlmbpbhdbgadjaa", sum := "470aff6a4456746c86da970eb692db3c1606a67572804dc5ef75f665e4846a4e", func := "perigee/perigeelaw08.ClockWindows", spec := "clockWindows", unfollowed := true, recurses := true, apart := false }
def ClockWindowsSaid : Prop := clockWindowsRow.holds Try.pinned (OpenSpec.ofChange clockWindowsSpec)

/-- ITS FALSE NEIGHBOUR: 'it returns false'. Refute it at one input. -/
def clockWindowsWrong : ChangeSpec := { name := "clockWindows", fn := fun _ => fun
  | [d1, d2, d3, d4] => { results := [.lit (.bool false)], args := [d1, d2, d3, d4] }
  | _ => none }
def ClockWindowsWrongFalsely : Prop := clockWindowsRow.holds Try.pinned (OpenSpec.ofChange clockWindowsWrong)

/-- 'perigeelaw08.ClockPackets': WHATEVER THE INPUT: true; the input reads as it did. -/
def clockPacketsSpec : ChangeSpec := { name := "clockPackets", fn := fun _ => fun
  | [d1, d2] => { results := [.lit (.bool true)], args := [d1, d2] }
  | _ => none }
def clockPacketsRow : OpenClaim := { program := "ytlmbpbhdbgadjaa", sum := "470aff6a4456746c86da970eb692db3c1606a67572804dc5ef75f665e4846a4e", func := "perigee/perigeelaw08.ClockPackets", spec := "clockPackets", unfollowed := true, recurses := true, apart := false }
def ClockPacketsSaid : Prop := clockPacketsRow.holds Try.pinned (OpenSpec.ofChange clockPacketsSpec)

/-- ITS FALSE NEIGHBOUR: 'it returns false'. Refute it at one input. -/
def clockPacketsWrong : ChangeSpec := { name := "clockPackets", fn := fun _ => fun
  | [d1, d2] => { results := [.lit (.bool false)], args := [d1, d2] }
  | _ => none }
def ClockPacketsWrongFalsely : Prop := clockPacketsRow.holds Try.pinned (OpenSpec.ofChange clockPacketsWrong)

/- THE SECOND FORM. 'bulk': how many values and letters a reading holds, each counted each time it is reached (what is shared counts as often as it is met; a slice's spare places count too). A statement '..UptoSaid' is the law's where the arguments, and the package variables that the reading takes, are together of bulk at most 1048576: NARROWER than '..Said'. Prove '..Said' where nothing that the law and all that it calls make is longer than what came in: it says more and counts as full. Else prove '..UptoSaid'. A law counts once. -/
mutual
def uptoBulk {H : Type} : DataW H → Nat
  | .lit (.string bytes) => bytes.length + 1
  | .lit _ => 1
  | .nil => 1
  | .ptr d => uptoBulk d + 1
  | .slice elems spare => uptoBulkAll elems + uptoBulkAll spare + 1
  | .agg parts => uptoBulkAll parts + 1
  | .iface _ d => uptoBulk d + 1
  | .map entries => uptoBulkEntries entries + 1
  | .held _ => 1
def uptoBulkAll {H : Type} : List (DataW H) → Nat
  | [] => 0
  | d :: r => uptoBulk d + uptoBulkAll r
def uptoBulkEntries {H : Type} : List (Lit × DataW H) → Nat
  | [] => 0
  | x :: r => uptoBulkEntry x + uptoBulkEntries r
def uptoBulkEntry {H : Type} : Lit × DataW H → Nat
  | (.string bytes, d) => bytes.length + uptoBulk d + 1
  | (_, d) => uptoBulk d + 1
 end
def uptoSmall : (H : Type) → List (DataW H) → Bool := fun _ ds => decide (uptoBulkAll ds ≤ 1048576)
def OpenSpec.upto (s : _root_.Go.ChangeSpec) : _root_.Go.OpenSpec := { _root_.Go.OpenSpec.ofChange s with cond := some uptoSmall }

/-- 'perigeelaw08.ClockAdvances', WHERE WHAT IT READS IS OF BULK AT MOST 1048576: true; the input reads as it did. -/
def clockAdvancesUptoRow : OpenClaim := { program := "ytlmbpbhdbgadjaa", sum := "470aff6a4456746c86da970eb692db3c1606a67572804dc5ef75f665e4846a4e", func := "perigee/perigeelaw08.ClockAdvances", spec := "clockAdvances", unfollowed := true, recurses := true, apart := false, narrowed := true }
def ClockAdvancesUptoSaid : Prop := clockAdvancesUptoRow.holds Try.pinned (OpenSpec.upto clockAdvancesSpec)

/-- 'perigeelaw08.ClockCorrelates', WHERE WHAT IT READS IS OF BULK AT MOST 1048576: true; the input reads as it did. -/
def clockCorrelatesUptoRow : OpenClaim := { program := "ytlmbpbhdbgadjaa", sum := "470aff6a4456746c86da970eb692db3c1606a67572804dc5ef75f665e4846a4e", func := "perigee/perigeelaw08.ClockCorrelates", spec := "clockCorrelates", unfollowed := true, recurses := true, apart := false, narrowed := true }
def ClockCorrelatesUptoSaid : Prop := clockCorrelatesUptoRow.holds Try.pinned (OpenSpec.upto clockCorrelatesSpec)

/-- 'perigeelaw08.ClockUnwraps', WHERE WHAT IT READS IS OF BULK AT MOST 1048576: true; the input reads as it did. -/
def clockUnwrapsUptoRow : OpenClaim := { program := "ytlmbpbhdbgadjaa", sum := "470aff6a4456746c86da970eb692db3c1606a67572804dc5ef75f665e4846a4e", func := "perigee/perigeelaw08.ClockUnwraps", spec := "clockUnwraps", unfollowed := true, recurses := true, apart := false, narrowed := true }
def ClockUnwrapsUptoSaid : Prop := clockUnwrapsUptoRow.holds Try.pinned (OpenSpec.upto clockUnwrapsSpec)

/-- 'perigeelaw08.ClockJudges', WHERE WHAT IT READS IS OF BULK AT MOST 1048576: true; the input reads as it did. -/
def clockJudgesUptoRow : OpenClaim := { program := "ytlmbpbhdbgadjaa", sum := "470aff6a4456746c86da970eb692db3c1606a67572804dc5ef75f665e4846a4e", func := "perigee/perigeelaw08.ClockJudges", spec := "clockJudges", unfollowed := true, recurses := true, apart := false, narrowed := true }
def ClockJudgesUptoSaid : Prop := clockJudgesUptoRow.holds Try.pinned (OpenSpec.upto clockJudgesSpec)

/-- 'perigeelaw08.ClockCivil', WHERE WHAT IT READS IS OF BULK AT MOST 1048576: true; the input reads as it did. -/
def clockCivilUptoRow : OpenClaim := { program := "ytlmbpbhdbgadjaa", sum := "470aff6a4456746c86da970eb692db3c1606a67572804dc5ef75f665e4846a4e", func := "perigee/perigeelaw08.ClockCivil", spec := "clockCivil", unfollowed := true, recurses := true, apart := false, narrowed := true }
def ClockCivilUptoSaid : Prop := clockCivilUptoRow.holds Try.pinned (OpenSpec.upto clockCivilSpec)

/-- 'perigeelaw08.ClockChecks', WHERE WHAT IT READS IS OF BULK AT MOST 1048576: true; the input reads as it did. -/
def clockChecksUptoRow : OpenClaim := { program := "ytlmbpbhdbgadjaa", sum := "470aff6a4456746c86da970eb692db3c1606a67572804dc5ef75f665e4846a4e", func := "perigee/perigeelaw08.ClockChecks", spec := "clockChecks", unfollowed := true, recurses := true, apart := false, narrowed := true }
def ClockChecksUptoSaid : Prop := clockChecksUptoRow.holds Try.pinned (OpenSpec.upto clockChecksSpec)

/-- 'perigeelaw08.ClockSound', WHERE WHAT IT READS IS OF BULK AT MOST 1048576: true; the input reads as it did. -/
def clockSoundUptoRow : OpenClaim := { program := "ytlmbpbhdbgadjaa", sum := "470aff6a4456746c86da970eb692db3c1606a67572804dc5ef75f665e4846a4e", func := "perigee/perigeelaw08.ClockSound", spec := "clockSound", unfollowed := true, recurses := true, apart := false, narrowed := true }
def ClockSoundUptoSaid : Prop := clockSoundUptoRow.holds Try.pinned (OpenSpec.upto clockSoundSpec)

/-- 'perigeelaw08.ClockSplits', WHERE WHAT IT READS IS OF BULK AT MOST 1048576: true; the input reads as it did. -/
def clockSplitsUptoRow : OpenClaim := { program := "ytlmbpbhdbgadjaa", sum := "470aff6a4456746c86da970eb692db3c1606a67572804dc5ef75f665e4846a4e", func := "perigee/perigeelaw08.ClockSplits", spec := "clockSplits", unfollowed := true, recurses := true, apart := false, narrowed := true }
def ClockSplitsUptoSaid : Prop := clockSplitsUptoRow.holds Try.pinned (OpenSpec.upto clockSplitsSpec)

/-- 'perigeelaw08.ClockOrder', WHERE WHAT IT READS IS OF BULK AT MOST 1048576: true; the input reads as it did. -/
def clockOrderUptoRow : OpenClaim := { program := "ytlmbpbhdbgadjaa", sum := "470aff6a4456746c86da970eb692db3c1606a67572804dc5ef75f665e4846a4e", func := "perigee/perigeelaw08.ClockOrder", spec := "clockOrder", unfollowed := true, recurses := true, apart := false, narrowed := true }
def ClockOrderUptoSaid : Prop := clockOrderUptoRow.holds Try.pinned (OpenSpec.upto clockOrderSpec)

/-- 'perigeelaw08.ClockWindows', WHERE WHAT IT READS IS OF BULK AT MOST 1048576: true; the input reads as it did. -/
def clockWindowsUptoRow : OpenClaim := { program := "ytlmbpbhdbgadjaa", sum := "470aff6a4456746c86da970eb692db3c1606a67572804dc5ef75f665e4846a4e", func := "perigee/perigeelaw08.ClockWindows", spec := "clockWindows", unfollowed := true, recurses := true, apart := false, narrowed := true }
def ClockWindowsUptoSaid : Prop := clockWindowsUptoRow.holds Try.pinned (OpenSpec.upto clockWindowsSpec)

/-- 'perigeelaw08.ClockPackets', WHERE WHAT IT READS IS OF BULK AT MOST 1048576: true; the input reads as it did. -/
def clockPacketsUptoRow : OpenClaim := { program := "ytlmbpbhdbgadjaa", sum := "470aff6a4456746c86da970eb692db3c1606a67572804dc5ef75f665e4846a4e", func := "perigee/perigeelaw08.ClockPackets", spec := "clockPackets", unfollowed := true, recurses := true, apart := false, narrowed := true }
def ClockPacketsUptoSaid : Prop := clockPacketsUptoRow.holds Try.pinned (OpenSpec.upto clockPacketsSpec)

end Rows
end Go.Proofs.Ytlmbpbhdbgadjaa
