/-
  NARROWER THAN 'FOR EVERY INPUT', by the rows' own cells (each row's printed sentence says how): Loads: laid · Steps: laid · Garbage: laid · Chain: laid · Whole: laid · Turns: laid · Fair: laid · Asleep: laid · All: laid · Freed: laid · Forced: laid.
  DERIVED. THE GIVEN ROWS OF THIS SEAT. 11 by the template 'for every input the law returns true; each argument reads behind the call as it read before'; 0 by the template 'total and deterministic' (their statements: YtnjiinbhbjpfkaaGreatDoorTotals.lean).
  GIVEN WITH THE SEED: the statements are not yours to turn. If you find one false, say at which input.
  Laid BY PROGRAM, IN A SANDBOX (cutbox-rows.mjs): the forced cells as the released guide's own fill.sh prints them over the translation dc62b20be2f8e8ae… (all of the seat's roots in one cut). By AI agents, Wed Nov 11 2026. No macro, syntax, notation, axiom, sorry.
-/
import Derived.Test.YtnjiinbhbjpfkaaGreatDoorChecked
import GoSem.Claim
import GoSem.ClaimJoined
import GoSem.ClaimMapViews
import Derived.JoinedTies
import Derived.KernelRfl
namespace Go.Proofs.YtnjiinbhbjpfkaaGreatDoor
/- THE CELL 'sum', in the pinned program and in every row, IS THE sha256 OF THE DUMP (.gsa) THAT YtnjiinbhbjpfkaaGreatDoorProg.lean LOADS. Nothing in Lean hashes anything: it is a label: what it is worth is what the hold of that sum in a sandbox is worth. -/
noncomputable def Tryz.pinned : Pinned := { name := "ytnjiinbhbjpfkaagreatdoor", sum := "dc62b20be2f8e8aeebd4c09a60bba36efde4da00c1ca9c021362670da5f50d47", checked := Tryz.checked }
namespace Rows
def none {H : Type} : Left H := { results := [], args := [] }

/- WHAT THE LISTED PACKAGE-LEVEL VARIABLES READ AS WHEN THE CALL BEGINS. Each datum BY PROGRAM (the guide's laid-datum.mjs) off the statement by which the dump's own 'gosem.cut.vars' lays the variable. In a bare row this is a premise. The card (YtnjiinbhbjpfkaaGreatDoorCards.lean) ties it to the program's text. -/
def laid_turnstile_code_operandKinds {H : Type} : DataW H := .agg [.lit (.string [114, 107, 107]), .lit (.string [114, 114, 45]), .lit (.string [114, 114, 114]), .lit (.string [114, 114, 114]), .lit (.string [114, 114, 114]), .lit (.string [114, 114, 114]), .lit (.string [114, 114, 114]), .lit (.string [45, 116, 116]), .lit (.string [114, 116, 116]), .lit (.string [114, 115, 45]), .lit (.string [114, 114, 114]), .lit (.string [114, 114, 114]), .lit (.string [114, 102, 114]), .lit (.string [114, 114, 114]), .lit (.string [114, 45, 45]), .lit (.string [114, 114, 114]), .lit (.string [45, 45, 45]), .lit (.string [114, 45, 45]), .lit (.string [114, 114, 45]), .lit (.string [114, 45, 45]), .lit (.string [114, 45, 45]), .lit (.string [114, 114, 45]), .lit (.string [114, 45, 45])]

/-- 'turnstilelaw.Loads': WHATEVER THE INPUT: true; the input reads as it did. -/
def loadsSpec : ChangeSpec := { name := "loads", fn := fun _ => fun
  | [d1, d2] => { results := [.lit (.bool true)], args := [d1, d2] }
  | _ => none }
def loadsRow : OpenClaim := { program := "ytnjiinbhbjpfkaagreatdoor", sum := "dc62b20be2f8e8aeebd4c09a60bba36efde4da00c1ca9c021362670da5f50d47", func := "turnstile/turnstilelaw.Loads", spec := "loads", inPlace := ["slices.overlaps[*turnstile/engine.task]"], unfollowed := true, recurses := true, named := ["turnstile/code.operandKinds"], apart := false, laid := [("turnstile/code.operandKinds", laid_turnstile_code_operandKinds)] }
def LoadsSaid : Prop := loadsRow.holds Tryz.pinned (OpenSpec.ofChange loadsSpec)

/-- ITS FALSE NEIGHBOUR: 'it returns false'. Refute it at one input. -/
def loadsWrong : ChangeSpec := { name := "loads", fn := fun _ => fun
  | [d1, d2] => { results := [.lit (.bool false)], args := [d1, d2] }
  | _ => none }
def LoadsWrongFalsely : Prop := loadsRow.holds Tryz.pinned (OpenSpec.ofChange loadsWrong)

/-- 'turnstilelaw.Steps': WHATEVER THE INPUT: true; the input reads as it did. -/
def stepsSpec : ChangeSpec := { name := "steps", fn := fun _ => fun
  | [d1, d2, d3, d4, d5] => { results := [.lit (.bool true)], args := [d1, d2, d3, d4, d5] }
  | _ => none }
def stepsRow : OpenClaim := { program := "ytnjiinbhbjpfkaagreatdoor", sum := "dc62b20be2f8e8aeebd4c09a60bba36efde4da00c1ca9c021362670da5f50d47", func := "turnstile/turnstilelaw.Steps", spec := "steps", inPlace := ["slices.overlaps[*turnstile/engine.task]", "(*internal/sync.Mutex).Lock", "internal/race.Disable", "sync/atomic.CompareAndSwapInt32", "internal/race.Enable", "internal/race.Acquire", "(*internal/sync.Mutex).lockSlow", "internal/sync.runtime_canSpin", "internal/sync.runtime_doSpin", "internal/sync.throw", "internal/sync.runtime_nanotime", "internal/sync.runtime_SemacquireMutex", "sync/atomic.AddInt32", "(*internal/sync.Mutex).Unlock", "internal/race.ReleaseMerge", "(*internal/sync.Mutex).unlockSlow", "internal/sync.fatal", "internal/sync.runtime_Semrelease"], unfollowed := true, recurses := true, named := ["turnstile/code.operandKinds"], apart := false, laid := [("turnstile/code.operandKinds", laid_turnstile_code_operandKinds)] }
def StepsSaid : Prop := stepsRow.holds Tryz.pinned (OpenSpec.ofChange stepsSpec)

/-- ITS FALSE NEIGHBOUR: 'it returns false'. Refute it at one input. -/
def stepsWrong : ChangeSpec := { name := "steps", fn := fun _ => fun
  | [d1, d2, d3, d4, d5] => { results := [.lit (.bool false)], args := [d1, d2, d3, d4, d5] }
  | _ => none }
def StepsWrongFalsely : Prop := stepsRow.holds Tryz.pinned (OpenSpec.ofChange stepsWrong)

/-- 'turnstilekeep.Garbage': WHATEVER THE INPUT: true; the input reads as it did. -/
def garbageSpec : ChangeSpec := { name := "garbage", fn := fun _ => fun
  | [d1, d2, d3, d4, d5, d6] => { results := [.lit (.bool true)], args := [d1, d2, d3, d4, d5, d6] }
  | _ => none }
def garbageRow : OpenClaim := { program := "ytnjiinbhbjpfkaagreatdoor", sum := "dc62b20be2f8e8aeebd4c09a60bba36efde4da00c1ca9c021362670da5f50d47", func := "turnstile/turnstilekeep.Garbage", spec := "garbage", inPlace := ["slices.overlaps[*turnstile/engine.task]", "(*internal/sync.Mutex).Lock", "internal/race.Disable", "sync/atomic.CompareAndSwapInt32", "internal/race.Enable", "internal/race.Acquire", "(*internal/sync.Mutex).lockSlow", "internal/sync.runtime_canSpin", "internal/sync.runtime_doSpin", "internal/sync.throw", "internal/sync.runtime_nanotime", "internal/sync.runtime_SemacquireMutex", "sync/atomic.AddInt32", "(*internal/sync.Mutex).Unlock", "internal/race.ReleaseMerge", "(*internal/sync.Mutex).unlockSlow", "internal/sync.fatal", "internal/sync.runtime_Semrelease"], unfollowed := true, recurses := true, named := ["turnstile/code.operandKinds"], apart := false, laid := [("turnstile/code.operandKinds", laid_turnstile_code_operandKinds)] }
def GarbageSaid : Prop := garbageRow.holds Tryz.pinned (OpenSpec.ofChange garbageSpec)

/-- ITS FALSE NEIGHBOUR: 'it returns false'. Refute it at one input. -/
def garbageWrong : ChangeSpec := { name := "garbage", fn := fun _ => fun
  | [d1, d2, d3, d4, d5, d6] => { results := [.lit (.bool false)], args := [d1, d2, d3, d4, d5, d6] }
  | _ => none }
def GarbageWrongFalsely : Prop := garbageRow.holds Tryz.pinned (OpenSpec.ofChange garbageWrong)

/-- 'turnstilekeep.Chain': WHATEVER THE INPUT: true; the input reads as it did. -/
def chainSpec : ChangeSpec := { name := "chain", fn := fun _ => fun
  | [d1, d2, d3] => { results := [.lit (.bool true)], args := [d1, d2, d3] }
  | _ => none }
def chainRow : OpenClaim := { program := "ytnjiinbhbjpfkaagreatdoor", sum := "dc62b20be2f8e8aeebd4c09a60bba36efde4da00c1ca9c021362670da5f50d47", func := "turnstile/turnstilekeep.Chain", spec := "chain", inPlace := ["slices.overlaps[*turnstile/engine.task]", "(*internal/sync.Mutex).Lock", "internal/race.Disable", "sync/atomic.CompareAndSwapInt32", "internal/race.Enable", "internal/race.Acquire", "(*internal/sync.Mutex).lockSlow", "internal/sync.runtime_canSpin", "internal/sync.runtime_doSpin", "internal/sync.throw", "internal/sync.runtime_nanotime", "internal/sync.runtime_SemacquireMutex", "sync/atomic.AddInt32", "(*internal/sync.Mutex).Unlock", "internal/race.ReleaseMerge", "(*internal/sync.Mutex).unlockSlow", "internal/sync.fatal", "internal/sync.runtime_Semrelease"], unfollowed := true, recurses := true, named := ["turnstile/code.operandKinds"], apart := false, laid := [("turnstile/code.operandKinds", laid_turnstile_code_operandKinds)] }
def ChainSaid : Prop := chainRow.holds Tryz.pinned (OpenSpec.ofChange chainSpec)

/-- ITS FALSE NEIGHBOUR: 'it returns false'. Refute it at one input. -/
def chainWrong : ChangeSpec := { name := "chain", fn := fun _ => fun
  | [d1, d2, d3] => { results := [.lit (.bool false)], args := [d1, d2, d3] }
  | _ => none }
def ChainWrongFalsely : Prop := chainRow.holds Tryz.pinned (OpenSpec.ofChange chainWrong)

/-- 'turnstilekeep.Whole': WHATEVER THE INPUT: true; the input reads as it did. -/
def wholeSpec : ChangeSpec := { name := "whole", fn := fun _ => fun
  | [d1, d2, d3, d4] => { results := [.lit (.bool true)], args := [d1, d2, d3, d4] }
  | _ => none }
def wholeRow : OpenClaim := { program := "ytnjiinbhbjpfkaagreatdoor", sum := "dc62b20be2f8e8aeebd4c09a60bba36efde4da00c1ca9c021362670da5f50d47", func := "turnstile/turnstilekeep.Whole", spec := "whole", inPlace := ["slices.overlaps[*turnstile/engine.task]", "(*internal/sync.Mutex).Lock", "internal/race.Disable", "sync/atomic.CompareAndSwapInt32", "internal/race.Enable", "internal/race.Acquire", "(*internal/sync.Mutex).lockSlow", "internal/sync.runtime_canSpin", "internal/sync.runtime_doSpin", "internal/sync.throw", "internal/sync.runtime_nanotime", "internal/sync.runtime_SemacquireMutex", "sync/atomic.AddInt32", "(*internal/sync.Mutex).Unlock", "internal/race.ReleaseMerge", "(*internal/sync.Mutex).unlockSlow", "internal/sync.fatal", "internal/sync.runtime_Semrelease"], unfollowed := true, recurses := true, named := ["turnstile/code.operandKinds"], apart := false, laid := [("turnstile/code.operandKinds", laid_turnstile_code_operandKinds)] }
def WholeSaid : Prop := wholeRow.holds Tryz.pinned (OpenSpec.ofChange wholeSpec)

/-- ITS FALSE NEIGHBOUR: 'it returns false'. Refute it at one input. -/
def wholeWrong : ChangeSpec := { name := "whole", fn := fun _ => fun
  | [d1, d2, d3, d4] => { results := [.lit (.bool false)], args := [d1, d2, d3, d4] }
  | _ => none }
def WholeWrongFalsely : Prop := wholeRow.holds Tryz.pinned (OpenSpec.ofChange wholeWrong)

/-- 'turnstilelaw.Turns': WHATEVER THE INPUT: true; the input reads as it did. -/
def turnsSpec : ChangeSpec := { name := "turns", fn := fun _ => fun
  | [d1, d2, d3, d4, d5] => { results := [.lit (.bool true)], args := [d1, d2, d3, d4, d5] }
  | _ => none }
def turnsRow : OpenClaim := { program := "ytnjiinbhbjpfkaagreatdoor", sum := "dc62b20be2f8e8aeebd4c09a60bba36efde4da00c1ca9c021362670da5f50d47", func := "turnstile/turnstilelaw.Turns", spec := "turns", inPlace := ["slices.overlaps[*turnstile/engine.task]", "(*internal/sync.Mutex).Lock", "internal/race.Disable", "sync/atomic.CompareAndSwapInt32", "internal/race.Enable", "internal/race.Acquire", "(*internal/sync.Mutex).lockSlow", "internal/sync.runtime_canSpin", "internal/sync.runtime_doSpin", "internal/sync.throw", "internal/sync.runtime_nanotime", "internal/sync.runtime_SemacquireMutex", "sync/atomic.AddInt32", "(*internal/sync.Mutex).Unlock", "internal/race.ReleaseMerge", "(*internal/sync.Mutex).unlockSlow", "internal/sync.fatal", "internal/sync.runtime_Semrelease"], unfollowed := true, recurses := true, named := ["turnstile/code.operandKinds"], apart := false, laid := [("turnstile/code.operandKinds", laid_turnstile_code_operandKinds)] }
def TurnsSaid : Prop := turnsRow.holds Tryz.pinned (OpenSpec.ofChange turnsSpec)

/-- ITS FALSE NEIGHBOUR: 'it returns false'. Refute it at one input. -/
def turnsWrong : ChangeSpec := { name := "turns", fn := fun _ => fun
  | [d1, d2, d3, d4, d5] => { results := [.lit (.bool false)], args := [d1, d2, d3, d4, d5] }
  | _ => none }
def TurnsWrongFalsely : Prop := turnsRow.holds Tryz.pinned (OpenSpec.ofChange turnsWrong)

/-- 'turnstilekeep.Fair': WHATEVER THE INPUT: true; the input reads as it did. -/
def fairSpec : ChangeSpec := { name := "fair", fn := fun _ => fun
  | [d1, d2, d3] => { results := [.lit (.bool true)], args := [d1, d2, d3] }
  | _ => none }
def fairRow : OpenClaim := { program := "ytnjiinbhbjpfkaagreatdoor", sum := "dc62b20be2f8e8aeebd4c09a60bba36efde4da00c1ca9c021362670da5f50d47", func := "turnstile/turnstilekeep.Fair", spec := "fair", inPlace := ["slices.overlaps[*turnstile/engine.task]", "(*internal/sync.Mutex).Lock", "internal/race.Disable", "sync/atomic.CompareAndSwapInt32", "internal/race.Enable", "internal/race.Acquire", "(*internal/sync.Mutex).lockSlow", "internal/sync.runtime_canSpin", "internal/sync.runtime_doSpin", "internal/sync.throw", "internal/sync.runtime_nanotime", "internal/sync.runtime_SemacquireMutex", "sync/atomic.AddInt32", "(*internal/sync.Mutex).Unlock", "internal/race.ReleaseMerge", "(*internal/sync.Mutex).unlockSlow", "internal/sync.fatal", "internal/sync.runtime_Semrelease"], unfollowed := true, recurses := true, named := ["turnstile/code.operandKinds"], apart := false, laid := [("turnstile/code.operandKinds", laid_turnstile_code_operandKinds)] }
def FairSaid : Prop := fairRow.holds Tryz.pinned (OpenSpec.ofChange fairSpec)

/-- ITS FALSE NEIGHBOUR: 'it returns false'. Refute it at one input. -/
def fairWrong : ChangeSpec := { name := "fair", fn := fun _ => fun
  | [d1, d2, d3] => { results := [.lit (.bool false)], args := [d1, d2, d3] }
  | _ => none }
def FairWrongFalsely : Prop := fairRow.holds Tryz.pinned (OpenSpec.ofChange fairWrong)

/-- 'turnstilekeep.Asleep': WHATEVER THE INPUT: true; the input reads as it did. -/
def asleepSpec : ChangeSpec := { name := "asleep", fn := fun _ => fun
  | [d1, d2] => { results := [.lit (.bool true)], args := [d1, d2] }
  | _ => none }
def asleepRow : OpenClaim := { program := "ytnjiinbhbjpfkaagreatdoor", sum := "dc62b20be2f8e8aeebd4c09a60bba36efde4da00c1ca9c021362670da5f50d47", func := "turnstile/turnstilekeep.Asleep", spec := "asleep", inPlace := ["slices.overlaps[*turnstile/engine.task]", "(*internal/sync.Mutex).Lock", "internal/race.Disable", "sync/atomic.CompareAndSwapInt32", "internal/race.Enable", "internal/race.Acquire", "(*internal/sync.Mutex).lockSlow", "internal/sync.runtime_canSpin", "internal/sync.runtime_doSpin", "internal/sync.throw", "internal/sync.runtime_nanotime", "internal/sync.runtime_SemacquireMutex", "sync/atomic.AddInt32", "(*internal/sync.Mutex).Unlock", "internal/race.ReleaseMerge", "(*internal/sync.Mutex).unlockSlow", "internal/sync.fatal", "internal/sync.runtime_Semrelease"], unfollowed := true, recurses := true, named := ["turnstile/code.operandKinds"], apart := false, laid := [("turnstile/code.operandKinds", laid_turnstile_code_operandKinds)] }
def AsleepSaid : Prop := asleepRow.holds Tryz.pinned (OpenSpec.ofChange asleepSpec)

/-- ITS FALSE NEIGHBOUR: 'it returns false'. Refute it at one input. -/
def asleepWrong : ChangeSpec := { name := "asleep", fn := fun _ => fun
  | [d1, d2] => { results := [.lit (.bool false)], args := [d1, d2] }
  | _ => none }
def AsleepWrongFalsely : Prop := asleepRow.holds Tryz.pinned (OpenSpec.ofChange asleepWrong)

/-- 'turnstilelaw.All': WHATEVER THE INPUT: true; the input reads as it did. -/
def allSpec : ChangeSpec := { name := "all", fn := fun _ => fun
  | [d1, d2, d3, d4, d5] => { results := [.lit (.bool true)], args := [d1, d2, d3, d4, d5] }
  | _ => none }
def allRow : OpenClaim := { program := "ytnjiinbhbjpfkaagreatdoor", sum := "dc62b20be2f8e8aeebd4c09a60bba36efde4da00c1ca9c021362670da5f50d47", func := "turnstile/turnstilelaw.All", spec := "all", inPlace := ["slices.overlaps[*turnstile/engine.task]", "(*internal/sync.Mutex).Lock", "internal/race.Disable", "sync/atomic.CompareAndSwapInt32", "internal/race.Enable", "internal/race.Acquire", "(*internal/sync.Mutex).lockSlow", "internal/sync.runtime_canSpin", "internal/sync.runtime_doSpin", "internal/sync.throw", "internal/sync.runtime_nanotime", "internal/sync.runtime_SemacquireMutex", "sync/atomic.AddInt32", "(*internal/sync.Mutex).Unlock", "internal/race.ReleaseMerge", "(*internal/sync.Mutex).unlockSlow", "internal/sync.fatal", "internal/sync.runtime_Semrelease"], unfollowed := true, recurses := true, named := ["turnstile/code.operandKinds"], apart := false, laid := [("turnstile/code.operandKinds", laid_turnstile_code_operandKinds)] }
def AllSaid : Prop := allRow.holds Tryz.pinned (OpenSpec.ofChange allSpec)

/-- ITS FALSE NEIGHBOUR: 'it returns false'. Refute it at one input. -/
def allWrong : ChangeSpec := { name := "all", fn := fun _ => fun
  | [d1, d2, d3, d4, d5] => { results := [.lit (.bool false)], args := [d1, d2, d3, d4, d5] }
  | _ => none }
def AllWrongFalsely : Prop := allRow.holds Tryz.pinned (OpenSpec.ofChange allWrong)

/-- 'turnstilekeep.Freed': WHATEVER THE INPUT: true; the input reads as it did. -/
def freedSpec : ChangeSpec := { name := "freed", fn := fun _ => fun
  | [d1, d2, d3, d4] => { results := [.lit (.bool true)], args := [d1, d2, d3, d4] }
  | _ => none }
def freedRow : OpenClaim := { program := "ytnjiinbhbjpfkaagreatdoor", sum := "dc62b20be2f8e8aeebd4c09a60bba36efde4da00c1ca9c021362670da5f50d47", func := "turnstile/turnstilekeep.Freed", spec := "freed", inPlace := ["slices.overlaps[*turnstile/engine.task]", "(*internal/sync.Mutex).Lock", "internal/race.Disable", "sync/atomic.CompareAndSwapInt32", "internal/race.Enable", "internal/race.Acquire", "(*internal/sync.Mutex).lockSlow", "internal/sync.runtime_canSpin", "internal/sync.runtime_doSpin", "internal/sync.throw", "internal/sync.runtime_nanotime", "internal/sync.runtime_SemacquireMutex", "sync/atomic.AddInt32", "(*internal/sync.Mutex).Unlock", "internal/race.ReleaseMerge", "(*internal/sync.Mutex).unlockSlow", "internal/sync.fatal", "internal/sync.runtime_Semrelease"], unfollowed := true, recurses := true, named := ["turnstile/code.operandKinds"], apart := false, laid := [("turnstile/code.operandKinds", laid_turnstile_code_operandKinds)] }
def FreedSaid : Prop := freedRow.holds Tryz.pinned (OpenSpec.ofChange freedSpec)

/-- ITS FALSE NEIGHBOUR: 'it returns false'. Refute it at one input. -/
def freedWrong : ChangeSpec := { name := "freed", fn := fun _ => fun
  | [d1, d2, d3, d4] => { results := [.lit (.bool false)], args := [d1, d2, d3, d4] }
  | _ => none }
def FreedWrongFalsely : Prop := freedRow.holds Tryz.pinned (OpenSpec.ofChange freedWrong)

/-- 'turnstilekeep.Forced': WHATEVER THE INPUT: true; the input reads as it did. -/
def forcedSpec : ChangeSpec := { name := "forced", fn := fun _ => fun
  | [d1, d2, d3, d4, d5] => { results := [.lit (.bool true)], args := [d1, d2, d3, d4, d5] }
  | _ => none }
def forcedRow : OpenClaim := { program := "ytnjiinbhbjpfkaagreatdoor", sum := "dc62b20be2f8e8aeebd4c09a60bba36efde4da00c1ca9c021362670da5f50d47", func := "turnstile/turnstilekeep.Forced", spec := "forced", inPlace := ["slices.overlaps[*turnstile/engine.task]", "(*internal/sync.Mutex).Lock", "internal/race.Disable", "sync/atomic.CompareAndSwapInt32", "internal/race.Enable", "internal/race.Acquire", "(*internal/sync.Mutex).lockSlow", "internal/sync.runtime_canSpin", "internal/sync.runtime_doSpin", "internal/sync.throw", "internal/sync.runtime_nanotime", "internal/sync.runtime_SemacquireMutex", "sync/atomic.AddInt32", "(*internal/sync.Mutex).Unlock", "internal/race.ReleaseMerge", "(*internal/sync.Mutex).unlockSlow", "internal/sync.fatal", "internal/sync.runtime_Semrelease"], unfollowed := true, recurses := true, named := ["turnstile/code.operandKinds"], apart := false, laid := [("turnstile/code.operandKinds", laid_turnstile_code_operandKinds)] }
def ForcedSaid : Prop := forcedRow.holds Tryz.pinned (OpenSpec.ofChange forcedSpec)

/-- ITS FALSE NEIGHBOUR: 'it returns false'. Refute it at one input. -/
def forcedWrong : ChangeSpec := { name := "forced", fn := fun _ => fun
  | [d1, d2, d3, d4, d5] => { results := [.lit (.bool false)], args := [d1, d2, d3, d4, d5] }
  | _ => none }
def ForcedWrongFalsely : Prop := forcedRow.holds Tryz.pinned (OpenSpec.ofChange forcedWrong)

/- THE SECOND FORM. 'bulk': how many values and letters a reading holds, each counted each time it is reached (what is shared counts as often as it is met; a slice's spare places count too). A statement '..UptoSaid' is the law's where the arguments, and the package variables that the reading takes, are together of bulk at most 1048576: NARROWER than '..Said'. Prove '..Said' where nothing that the law and all that it calls make is longer than what came in: it says more and counts as full. Else prove '..UptoSaid'. A law counts once. -/
mutual
def uptoBulk {H : Type} : DataW H → Nat
  | .lit (.string bytes) => bytes.length + 1
  | .lit _ => 1
  | .nil => 1
  | .ptr d => uptoBulk d + 1
  | .slice elems spare => uptoBulkAll elems + uptoBulkAll spare + 1
  | .agg parts => uptoBulkAll parts + 1
  | .iface _ d => uptoBulk d + 1
  | .map entries => uptoBulkEntries entries + 1
  | .held _ => 1
def uptoBulkAll {H : Type} : List (DataW H) → Nat
  | [] => 0
  | d :: r => uptoBulk d + uptoBulkAll r
def uptoBulkEntries {H : Type} : List (Lit × DataW H) → Nat
  | [] => 0
  | x :: r => uptoBulkEntry x + uptoBulkEntries r
def uptoBulkEntry {H : Type} : Lit × DataW H → Nat
  | (.string bytes, d) => bytes.length + uptoBulk d + 1
  | (_, d) => uptoBulk d + 1
 end
def uptoSmall : (H : Type) → List (DataW H) → Bool := fun _ ds => decide (uptoBulkAll ds ≤ 1048576)
def OpenSpec.upto (s : _root_.Go.ChangeSpec) : _root_.Go.OpenSpec := { _root_.Go.OpenSpec.ofChange s with cond := some uptoSmall }

/-- 'turnstilelaw.Loads', WHERE WHAT IT READS IS OF BULK AT MOST 1048576: true; the input reads as it did. -/
def loadsUptoRow : OpenClaim := { program := "ytnjiinbhbjpfkaagreatdoor", sum := "dc62b20be2f8e8aeebd4c09a60bba36efde4da00c1ca9c021362670da5f50d47", func := "turnstile/turnstilelaw.Loads", spec := "loads", inPlace := ["slices.overlaps[*turnstile/engine.task]"], unfollowed := true, recurses := true, named := ["turnstile/code.operandKinds"], apart := false, laid := [("turnstile/code.operandKinds", laid_turnstile_code_operandKinds)], narrowed := true }
def LoadsUptoSaid : Prop := loadsUptoRow.holds Tryz.pinned (OpenSpec.upto loadsSpec)

/-- 'turnstilelaw.Steps', WHERE WHAT IT READS IS OF BULK AT MOST 1048576: true; the input reads as it did. -/
def stepsUptoRow : OpenClaim := { program := "ytnjiinbhbjpfkaagreatdoor", sum := "dc62b20be2f8e8aeebd4c09a60bba36efde4da00c1ca9c021362670da5f50d47", func := "turnstile/turnstilelaw.Steps", spec := "steps", inPlace := ["slices.overlaps[*turnstile/engine.task]", "(*internal/sync.Mutex).Lock", "internal/race.Disable", "sync/atomic.CompareAndSwapInt32", "internal/race.Enable", "internal/race.Acquire", "(*internal/sync.Mutex).lockSlow", "internal/sync.runtime_canSpin", "internal/sync.runtime_doSpin", "internal/sync.throw", "internal/sync.runtime_nanotime", "internal/sync.runtime_SemacquireMutex", "sync/atomic.AddInt32", "(*internal/sync.Mutex).Unlock", "internal/race.ReleaseMerge", "(*internal/sync.Mutex).unlockSlow", "internal/sync.fatal", "internal/sync.runtime_Semrelease"], unfollowed := true, recurses := true, named := ["turnstile/code.operandKinds"], apart := false, laid := [("turnstile/code.operandKinds", laid_turnstile_code_operandKinds)], narrowed := true }
def StepsUptoSaid : Prop := stepsUptoRow.holds Tryz.pinned (OpenSpec.upto stepsSpec)

/-- 'turnstilekeep.Garbage', WHERE WHAT IT READS IS OF BULK AT MOST 1048576: true; the input reads as it did. -/
def garbageUptoRow : OpenClaim := { program := "ytnjiinbhbjpfkaagreatdoor", sum := "dc62b20be2f8e8aeebd4c09a60bba36efde4da00c1ca9c021362670da5f50d47", func := "turnstile/turnstilekeep.Garbage", spec := "garbage", inPlace := ["slices.overlaps[*turnstile/engine.task]", "(*internal/sync.Mutex).Lock", "internal/race.Disable", "sync/atomic.CompareAndSwapInt32", "internal/race.Enable", "internal/race.Acquire", "(*internal/sync.Mutex).lockSlow", "internal/sync.runtime_canSpin", "internal/sync.runtime_doSpin", "internal/sync.throw", "internal/sync.runtime_nanotime", "internal/sync.runtime_SemacquireMutex", "sync/atomic.AddInt32", "(*internal/sync.Mutex).Unlock", "internal/race.ReleaseMerge", "(*internal/sync.Mutex).unlockSlow", "internal/sync.fatal", "internal/sync.runtime_Semrelease"], unfollowed := true, recurses := true, named := ["turnstile/code.operandKinds"], apart := false, laid := [("turnstile/code.operandKinds", laid_turnstile_code_operandKinds)], narrowed := true }
def GarbageUptoSaid : Prop := garbageUptoRow.holds Tryz.pinned (OpenSpec.upto garbageSpec)

/-- 'turnstilekeep.Chain', WHERE WHAT IT READS IS OF BULK AT MOST 1048576: true; the input reads as it did. -/
def chainUptoRow : OpenClaim := { program := "ytnjiinbhbjpfkaagreatdoor", sum := "dc62b20be2f8e8aeebd4c09a60bba36efde4da00c1ca9c021362670da5f50d47", func := "turnstile/turnstilekeep.Chain", spec := "chain", inPlace := ["slices.overlaps[*turnstile/engine.task]", "(*internal/sync.Mutex).Lock", "internal/race.Disable", "sync/atomic.CompareAndSwapInt32", "internal/race.Enable", "internal/race.Acquire", "(*internal/sync.Mutex).lockSlow", "internal/sync.runtime_canSpin", "internal/sync.runtime_doSpin", "internal/sync.throw", "internal/sync.runtime_nanotime", "internal/sync.runtime_SemacquireMutex", "sync/atomic.AddInt32", "(*internal/sync.Mutex).Unlock", "internal/race.ReleaseMerge", "(*internal/sync.Mutex).unlockSlow", "internal/sync.fatal", "internal/sync.runtime_Semrelease"], unfollowed := true, recurses := true, named := ["turnstile/code.operandKinds"], apart := false, laid := [("turnstile/code.operandKinds", laid_turnstile_code_operandKinds)], narrowed := true }
def ChainUptoSaid : Prop := chainUptoRow.holds Tryz.pinned (OpenSpec.upto chainSpec)

/-- 'turnstilekeep.Whole', WHERE WHAT IT READS IS OF BULK AT MOST 1048576: true; the input reads as it did. -/
def wholeUptoRow : OpenClaim := { program := "ytnjiinbhbjpfkaagreatdoor", sum := "dc62b20be2f8e8aeebd4c09a60bba36efde4da00c1ca9c021362670da5f50d47", func := "turnstile/turnstilekeep.Whole", spec := "whole", inPlace := ["slices.overlaps[*turnstile/engine.task]", "(*internal/sync.Mutex).Lock", "internal/race.Disable", "sync/atomic.CompareAndSwapInt32", "internal/race.Enable", "internal/race.Acquire", "(*internal/sync.Mutex).lockSlow", "internal/sync.runtime_canSpin", "internal/sync.runtime_doSpin", "internal/sync.throw", "internal/sync.runtime_nanotime", "internal/sync.runtime_SemacquireMutex", "sync/atomic.AddInt32", "(*internal/sync.Mutex).Unlock", "internal/race.ReleaseMerge", "(*internal/sync.Mutex).unlockSlow", "internal/sync.fatal", "internal/sync.runtime_Semrelease"], unfollowed := true, recurses := true, named := ["turnstile/code.operandKinds"], apart := false, laid := [("turnstile/code.operandKinds", laid_turnstile_code_operandKinds)], narrowed := true }
def WholeUptoSaid : Prop := wholeUptoRow.holds Tryz.pinned (OpenSpec.upto wholeSpec)

/-- 'turnstilelaw.Turns', WHERE WHAT IT READS IS OF BULK AT MOST 1048576: true; the input reads as it did. -/
def turnsUptoRow : OpenClaim := { program := "ytnjiinbhbjpfkaagreatdoor", sum := "dc62b20be2f8e8aeebd4c09a60bba36efde4da00c1ca9c021362670da5f50d47", func := "turnstile/turnstilelaw.Turns", spec := "turns", inPlace := ["slices.overlaps[*turnstile/engine.task]", "(*internal/sync.Mutex).Lock", "internal/race.Disable", "sync/atomic.CompareAndSwapInt32", "internal/race.Enable", "internal/race.Acquire", "(*internal/sync.Mutex).lockSlow", "internal/sync.runtime_canSpin", "internal/sync.runtime_doSpin", "internal/sync.throw", "internal/sync.runtime_nanotime", "internal/sync.runtime_SemacquireMutex", "sync/atomic.AddInt32", "(*internal/sync.Mutex).Unlock", "internal/race.ReleaseMerge", "(*internal/sync.Mutex).unlockSlow", "internal/sync.fatal", "internal/sync.runtime_Semrelease"], unfollowed := true, recurses := true, named := ["turnstile/code.operandKinds"], apart := false, laid := [("turnstile/code.operandKinds", laid_turnstile_code_operandKinds)], narrowed := true }
def TurnsUptoSaid : Prop := turnsUptoRow.holds Tryz.pinned (OpenSpec.upto turnsSpec)

/-- 'turnstilekeep.Fair', WHERE WHAT IT READS IS OF BULK AT MOST 1048576: true; the input reads as it did. -/
def fairUptoRow : OpenClaim := { program := "ytnjiinbhbjpfkaagreatdoor", sum := "dc62b20be2f8e8aeebd4c09a60bba36efde4da00c1ca9c021362670da5f50d47", func := "turnstile/turnstilekeep.Fair", spec := "fair", inPlace := ["slices.overlaps[*turnstile/engine.task]", "(*internal/sync.Mutex).Lock", "internal/race.Disable", "sync/atomic.CompareAndSwapInt32", "internal/race.Enable", "internal/race.Acquire", "(*internal/sync.Mutex).lockSlow", "internal/sync.runtime_canSpin", "internal/sync.runtime_doSpin", "internal/sync.throw", "internal/sync.runtime_nanotime", "internal/sync.runtime_SemacquireMutex", "sync/atomic.AddInt32", "(*internal/sync.Mutex).Unlock", "internal/race.ReleaseMerge", "(*internal/sync.Mutex).unlockSlow", "internal/sync.fatal", "internal/sync.runtime_Semrelease"], unfollowed := true, recurses := true, named := ["turnstile/code.operandKinds"], apart := false, laid := [("turnstile/code.operandKinds", laid_turnstile_code_operandKinds)], narrowed := true }
def FairUptoSaid : Prop := fairUptoRow.holds Tryz.pinned (OpenSpec.upto fairSpec)

/-- 'turnstilekeep.Asleep', WHERE WHAT IT READS IS OF BULK AT MOST 1048576: true; the input reads as it did. -/
def asleepUptoRow : OpenClaim := { program := "ytnjiinbhbjpfkaagreatdoor", sum := "dc62b20be2f8e8aeebd4c09a60bba36efde4da00c1ca9c021362670da5f50d47", func := "turnstile/turnstilekeep.Asleep", spec := "asleep", inPlace := ["slices.overlaps[*turnstile/engine.task]", "(*internal/sync.Mutex).Lock", "internal/race.Disable", "sync/atomic.CompareAndSwapInt32", "internal/race.Enable", "internal/race.Acquire", "(*internal/sync.Mutex).lockSlow", "internal/sync.runtime_canSpin", "internal/sync.runtime_doSpin", "internal/sync.throw", "internal/sync.runtime_nanotime", "internal/sync.runtime_SemacquireMutex", "sync/atomic.AddInt32", "(*internal/sync.Mutex).Unlock", "internal/race.ReleaseMerge", "(*internal/sync.Mutex).unlockSlow", "internal/sync.fatal", "internal/sync.runtime_Semrelease"], unfollowed := true, recurses := true, named := ["turnstile/code.operandKinds"], apart := false, laid := [("turnstile/code.operandKinds", laid_turnstile_code_operandKinds)], narrowed := true }
def AsleepUptoSaid : Prop := asleepUptoRow.holds Tryz.pinned (OpenSpec.upto asleepSpec)

/-- 'turnstilelaw.All', WHERE WHAT IT READS IS OF BULK AT MOST 1048576: true; the input reads as it did. -/
def allUptoRow : OpenClaim := { program := "ytnjiinbhbjpfkaagreatdoor", sum := "dc62b20be2f8e8aeebd4c09a60bba36efde4da00c1ca9c021362670da5f50d47", func := "turnstile/turnstilelaw.All", spec := "all", inPlace := ["slices.overlaps[*turnstile/engine.task]", "(*internal/sync.Mutex).Lock", "internal/race.Disable", "sync/atomic.CompareAndSwapInt32", "internal/race.Enable", "internal/race.Acquire", "(*internal/sync.Mutex).lockSlow", "internal/sync.runtime_canSpin", "internal/sync.runtime_doSpin", "internal/sync.throw", "internal/sync.runtime_nanotime", "internal/sync.runtime_SemacquireMutex", "sync/atomic.AddInt32", "(*internal/sync.Mutex).Unlock", "internal/race.ReleaseMerge", "(*internal/sync.Mutex).unlockSlow", "internal/sync.fatal", "internal/sync.runtime_Semrelease"], unfollowed := true, recurses := true, named := ["turnstile/code.operandKinds"], apart := false, laid := [("turnstile/code.operandKinds", laid_turnstile_code_operandKinds)], narrowed := true }
def AllUptoSaid : Prop := allUptoRow.holds Tryz.pinned (OpenSpec.upto allSpec)

/-- 'turnstilekeep.Freed', WHERE WHAT IT READS IS OF BULK AT MOST 1048576: true; the input reads as it did. -/
def freedUptoRow : OpenClaim := { program := "ytnjiinbhbjpfkaagreatdoor", sum := "dc62b20be2f8e8aeebd4c09a60bba36efde4da00c1ca9c021362670da5f50d47", func := "turnstile/turnstilekeep.Freed", spec := "freed", inPlace := ["slices.overlaps[*turnstile/engine.task]", "(*internal/sync.Mutex).Lock", "internal/race.Disable", "sync/atomic.CompareAndSwapInt32", "internal/race.Enable", "internal/race.Acquire", "(*internal/sync.Mutex).lockSlow", "internal/sync.runtime_canSpin", "internal/sync.runtime_doSpin", "internal/sync.throw", "internal/sync.runtime_nanotime", "internal/sync.runtime_SemacquireMutex", "sync/atomic.AddInt32", "(*internal/sync.Mutex).Unlock", "internal/race.ReleaseMerge", "(*internal/sync.Mutex).unlockSlow", "internal/sync.fatal", "internal/sync.runtime_Semrelease"], unfollowed := true, recurses := true, named := ["turnstile/code.operandKinds"], apart := false, laid := [("turnstile/code.operandKinds", laid_turnstile_code_operandKinds)], narrowed := true }
def FreedUptoSaid : Prop := freedUptoRow.holds Tryz.pinned (OpenSpec.upto freedSpec)

/-- 'turnstilekeep.Forced', WHERE WHAT IT READS IS OF BULK AT MOST 1048576: true; the input reads as it did. -/
def forcedUptoRow : OpenClaim := { program := "ytnjiinbhbjpfkaagreatdoor", sum := "dc62b20be2f8e8aeebd4c09a60bba36efde4da00c1ca9c021362670da5f50d47", func := "turnstile/turnstilekeep.Forced", spec := "forced", inPlace := ["slices.overlaps[*turnstile/engine.task]", "(*internal/sync.Mutex).Lock", "internal/race.Disable", "sync/atomic.CompareAndSwapInt32", "internal/race.Enable", "internal/race.Acquire", "(*internal/sync.Mutex).lockSlow", "internal/sync.runtime_canSpin", "internal/sync.runtime_doSpin", "internal/sync.throw", "internal/sync.runtime_nanotime", "internal/sync.runtime_SemacquireMutex", "sync/atomic.AddInt32", "(*internal/sync.Mutex).Unlock", "internal/race.ReleaseMerge", "(*internal/sync.Mutex).unlockSlow", "internal/sync.fatal", "internal/sync.runtime_Semrelease"], unfollowed := true, recurses := true, named := ["turnstile/code.operandKinds"], apart := false, laid := [("turnstile/code.operandKinds", laid_turnstile_code_operandKinds)], narrowed := true }
def ForcedUptoSaid : Prop := forcedUptoRow.holds Tryz.pinned (OpenSpec.upto forcedSpec)

end Rows
end Go.Proofs.YtnjiinbhbjpfkaaGreatDoor
