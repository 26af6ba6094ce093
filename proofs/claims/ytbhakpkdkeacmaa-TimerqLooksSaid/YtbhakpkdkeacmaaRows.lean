/-
  No cell of these rows narrows 'for every input' (looked for: loops, veiled, ifaces, maps, wideKeys, modest, calm, conditions, laid).
  DERIVED. THE GIVEN ROWS OF THIS SEAT. 5 by the template 'for every input the law returns true; each argument reads behind the call as it read before'; 0 by the template 'total and deterministic' (their statements: YtbhakpkdkeacmaaTotals.lean).
  GIVEN WITH THE SEED: the statements are not yours to turn. If you find one false, say at which input.
  Laid BY PROGRAM, IN A SANDBOX (cutbox-rows.mjs): the forced cells as the released guide's own fill.sh prints them over the translation 62eeab6cd23f77e4… (all of the seat's roots in one cut). By AI agents, Wed Nov 11 2026. No macro, syntax, notation, axiom, sorry.
-/
import Derived.Test.YtbhakpkdkeacmaaChecked
import GoSem.Claim
import GoSem.ClaimJoined
import GoSem.ClaimMapViews
import Derived.JoinedTies
import Derived.KernelRfl
namespace Go.Proofs.Ytbhakpkdkeacmaa
/- THE CELL 'sum', in the pinned program and in every row, IS THE sha256 OF THE DUMP (.gsa) THAT YtbhakpkdkeacmaaProg.lean LOADS. Nothing in Lean hashes anything: it is a label: what it is worth is what the hold of that sum in a sandbox is worth. -/
noncomputable def Try.pinned : Pinned := { name := "ytbhakpkdkeacmaa", sum := "62eeab6cd23f77e4972a45fb33de6babd9a19936adb5dcf7edbe19735e4855e2", checked := Try.checked }
namespace Rows
def none {H : Type} : Left H := { results := [], args := [] }

/-- 'jobmuxlaw02.TimerqPlays': WHATEVER THE INPUT: true; the input reads as it did. -/
def timerqPlaysSpec : ChangeSpec := { name := "timerqPlays", fn := fun _ => fun
  | [d1, d2] => { results := [.lit (.bool true)], args := [d1, d2] }
  | _ => none }
def timerqPlaysRow : OpenClaim := { program := "ytbhakpkdkeacmaa", sum := "62eeab6cd23f77e4972a45fb33de6babd9a19936adb5dcf7edbe19735e4855e2", func := "jobmux/jobmuxlaw02.TimerqPlays", spec := "timerqPlays", unfollowed := true, recurses := true, apart := false }
def TimerqPlaysSaid : Prop := timerqPlaysRow.holds Try.pinned (OpenSpec.ofChange timerqPlaysSpec)

/-- ITS FALSE NEIGHBOUR: 'it returns false'. Refute it at one input. -/
def timerqPlaysWrong : ChangeSpec := { name := "timerqPlays", fn := fun _ => fun
  | [d1, d2] => { results := [.lit (.bool false)], args := [d1, d2] }
  | _ => none }
def TimerqPlaysWrongFalsely : Prop := timerqPlaysRow.holds Try.pinned (OpenSpec.ofChange timerqPlaysWrong)

/-- 'jobmuxlaw02.TimerqFull': WHATEVER THE INPUT: true; the input reads as it did. -/
def timerqFullSpec : ChangeSpec := { name := "timerqFull", fn := fun _ => fun
  | [d1, d2] => { results := [.lit (.bool true)], args := [d1, d2] }
  | _ => none }
def timerqFullRow : OpenClaim := { program := "ytbhakpkdkeacmaa", sum := "62eeab6cd23f77e4972a45fb33de6babd9a19936adb5dcf7edbe19735e4855e2", func := "jobmux/jobmuxlaw02.TimerqFull", spec := "timerqFull", unfollowed := true, recurses := true, apart := false }
def TimerqFullSaid : Prop := timerqFullRow.holds Try.pinned (OpenSpec.ofChange timerqFullSpec)

/-- ITS FALSE NEIGHBOUR: 'it returns false'. Refute it at one input. -/
def timerqFullWrong : ChangeSpec := { name := "timerqFull", fn := fun _ => fun
  | [d1, d2] => { results := [.lit (.bool false)], args := [d1, d2] }
  | _ => none }
def TimerqFullWrongFalsely : Prop := timerqFullRow.holds Try.pinned (OpenSpec.ofChange timerqFullWrong)

/-- 'jobmuxlaw02.TimerqOnce': WHATEVER THE INPUT: true; the input reads as it did. -/
def timerqOnceSpec : ChangeSpec := { name := "timerqOnce", fn := fun _ => fun
  | [d] => { results := [.lit (.bool true)], args := [d] }
  | _ => none }
def timerqOnceRow : OpenClaim := { program := "ytbhakpkdkeacmaa", sum := "62eeab6cd23f77e4972a45fb33de6babd9a19936adb5dcf7edbe19735e4855e2", func := "jobmux/jobmuxlaw02.TimerqOnce", spec := "timerqOnce", unfollowed := true, recurses := true, apart := false }
def TimerqOnceSaid : Prop := timerqOnceRow.holds Try.pinned (OpenSpec.ofChange timerqOnceSpec)

/-- ITS FALSE NEIGHBOUR: 'it returns false'. Refute it at one input. -/
def timerqOnceWrong : ChangeSpec := { name := "timerqOnce", fn := fun _ => fun
  | [d] => { results := [.lit (.bool false)], args := [d] }
  | _ => none }
def TimerqOnceWrongFalsely : Prop := timerqOnceRow.holds Try.pinned (OpenSpec.ofChange timerqOnceWrong)

/-- 'jobmuxlaw02.TimerqDivides': WHATEVER THE INPUT: true; the input reads as it did. -/
def timerqDividesSpec : ChangeSpec := { name := "timerqDivides", fn := fun _ => fun
  | [d1, d2] => { results := [.lit (.bool true)], args := [d1, d2] }
  | _ => none }
def timerqDividesRow : OpenClaim := { program := "ytbhakpkdkeacmaa", sum := "62eeab6cd23f77e4972a45fb33de6babd9a19936adb5dcf7edbe19735e4855e2", func := "jobmux/jobmuxlaw02.TimerqDivides", spec := "timerqDivides", unfollowed := true, recurses := true, apart := false }
def TimerqDividesSaid : Prop := timerqDividesRow.holds Try.pinned (OpenSpec.ofChange timerqDividesSpec)

/-- ITS FALSE NEIGHBOUR: 'it returns false'. Refute it at one input. -/
def timerqDividesWrong : ChangeSpec := { name := "timerqDivides", fn := fun _ => fun
  | [d1, d2] => { results := [.lit (.bool false)], args := [d1, d2] }
  | _ => none }
def TimerqDividesWrongFalsely : Prop := timerqDividesRow.holds Try.pinned (OpenSpec.ofChange timerqDividesWrong)

/-- 'jobmuxlaw02.TimerqLooks': WHATEVER THE INPUT: true; the input reads as it did. -/
def timerqLooksSpec : ChangeSpec := { name := "timerqLooks", fn := fun _ => fun
  | [d] => { results := [.lit (.bool true)], args := [d] }
  | _ => none }
def timerqLooksRow : OpenClaim := { program := "ytbhakpkdkeacmaa", sum := "62eeab6cd23f77e4972a45fb33de6babd9a19936adb5dcf7edbe19735e4855e2", func := "jobmux/jobmuxlaw02.TimerqLooks", spec := "timerqLooks", unfollowed := true, recurses := true, apart := false }
def TimerqLooksSaid : Prop := timerqLooksRow.holds Try.pinned (OpenSpec.ofChange timerqLooksSpec)

/-- ITS FALSE NEIGHBOUR: 'it returns false'. Refute it at one input. -/
def timerqLooksWrong : ChangeSpec := { name := "timerqLooks", fn := fun _ => fun
  | [d] => { results := [.lit (.bool false)], args := [d] }
  | _ => none }
def TimerqLooksWrongFalsely : Prop := timerqLooksRow.holds Try.pinned (OpenSpec.ofChange timerqLooksWrong)

/- THE SECOND FORM. 'bulk': how many values and letters a reading holds, each counted each time it is reached (what is shared counts as often as it is met; a slice's spare places count too). A statement '..UptoSaid' is the law's where the arguments, and the package variables that the reading takes, are together of bulk at most 1048576: NARROWER than '..Said'. Prove '..Said' where nothing that the law and all that it calls make is longer than what came in: it says more and counts as full. Else prove '..UptoSaid'. A law counts once. -/
mutual
def uptoBulk {H : Type} : DataW H → Nat
  | .lit (.string bytes) => bytes.length + 1
  | .lit _ => 1
  | .nil => 1
  | .ptr d => uptoBulk d + 1
  | .slice elems spare => uptoBulkAll elems + uptoBulkAll spare + 1
  | .agg parts => uptoBulkAll parts + 1
  | .iface _ d => uptoBulk d + 1
  | .map entries => uptoBulkEntries entries + 1
  | .held _ => 1
def uptoBulkAll {H : Type} : List (DataW H) → Nat
  | [] => 0
  | d :: r => uptoBulk d + uptoBulkAll r
def uptoBulkEntries {H : Type} : List (Lit × DataW H) → Nat
  | [] => 0
  | x :: r => uptoBulkEntry x + uptoBulkEntries r
def uptoBulkEntry {H : Type} : Lit × DataW H → Nat
  | (.string bytes, d) => bytes.length + uptoBulk d + 1
  | (_, d) => uptoBulk d + 1
 end
def uptoSmall : (H : Type) → List (DataW H) → Bool := fun _ ds => decide (uptoBulkAll ds ≤ 1048576)
def OpenSpec.upto (s : _root_.Go.ChangeSpec) : _root_.Go.OpenSpec := { _root_.Go.OpenSpec.ofChange s with cond := some uptoSmall }

/-- 'jobmuxlaw02.TimerqPlays', WHERE WHAT IT READS IS OF BULK AT MOST 1048576: true; the input reads as it did. -/
def timerqPlaysUptoRow : OpenClaim := { program := "ytbhakpkdkeacmaa", sum := "62eeab6cd23f77e4972a45fb33de6babd9a19936adb5dcf7edbe19735e4855e2", func := "jobmux/jobmuxlaw02.TimerqPlays", spec := "timerqPlays", unfollowed := true, recurses := true, apart := false, narrowed := true }
def TimerqPlaysUptoSaid : Prop := timerqPlaysUptoRow.holds Try.pinned (OpenSpec.upto timerqPlaysSpec)

/-- 'jobmuxlaw02.TimerqFull', WHERE WHAT IT READS IS OF BULK AT MOST 1048576: true; the input reads as it did. -/
def timerqFullUptoRow : OpenClaim := { program := "ytbhakpkdkeacmaa", sum := "62eeab6cd23f77e4972a45fb33de6babd9a19936adb5dcf7edbe19735e4855e2", func := "jobmux/jobmuxlaw02.TimerqFull", spec := "timerqFull", unfollowed := true, recurses := true, apart := false, narrowed := true }
def TimerqFullUptoSaid : Prop := timerqFullUptoRow.holds Try.pinned (OpenSpec.upto timerqFullSpec)

/-- 'jobmuxlaw02.TimerqOnce', WHERE WHAT IT READS IS OF BULK AT MOST 1048576: true; the input reads as it did. -/
def timerqOnceUptoRow : OpenClaim := { program := "ytbhakpkdkeacmaa", sum := "62eeab6cd23f77e4972a45fb33de6babd9a19936adb5dcf7edbe19735e4855e2", func := "jobmux/jobmuxlaw02.TimerqOnce", spec := "timerqOnce", unfollowed := true, recurses := true, apart := false, narrowed := true }
def TimerqOnceUptoSaid : Prop := timerqOnceUptoRow.holds Try.pinned (OpenSpec.upto timerqOnceSpec)

/-- 'jobmuxlaw02.TimerqDivides', WHERE WHAT IT READS IS OF BULK AT MOST 1048576: true; the input reads as it did. -/
def timerqDividesUptoRow : OpenClaim := { program := "ytbhakpkdkeacmaa", sum := "62eeab6cd23f77e4972a45fb33de6babd9a19936adb5dcf7edbe19735e4855e2", func := "jobmux/jobmuxlaw02.TimerqDivides", spec := "timerqDivides", unfollowed := true, recurses := true, apart := false, narrowed := true }
def TimerqDividesUptoSaid : Prop := timerqDividesUptoRow.holds Try.pinned (OpenSpec.upto timerqDividesSpec)

/-- 'jobmuxlaw02.TimerqLooks', WHERE WHAT IT READS IS OF BULK AT MOST 1048576: true; the input reads as it did. -/
def timerqLooksUptoRow : OpenClaim := { program := "ytbhakpkdkeacmaa", sum := "62eeab6cd23f77e4972a45fb33de6babd9a19936adb5dcf7edbe19735e4855e2", func := "jobmux/jobmuxlaw02.TimerqLooks", spec := "timerqLooks", unfollowed := true, recurses := true, apart := false, narrowed := true }
def TimerqLooksUptoSaid : Prop := timerqLooksUptoRow.holds Try.pinned (OpenSpec.upto timerqLooksSpec)

end Rows
end Go.Proofs.Ytbhakpkdkeacmaa
