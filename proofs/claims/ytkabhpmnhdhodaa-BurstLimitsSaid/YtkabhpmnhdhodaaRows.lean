/-
  No cell of these rows narrows 'for every input' (looked for: loops, veiled, ifaces, maps, wideKeys, modest, calm, conditions, laid).
  DERIVED. THE GIVEN ROWS OF THIS SEAT. 4 by the template 'for every input the law returns true; each argument reads behind the call as it read before'; 0 by the template 'total and deterministic' (their statements: YtkabhpmnhdhodaaTotals.lean).
  GIVEN WITH THE SEED: the statements are not yours to turn. If you find one false, say at which input.
  Laid BY PROGRAM, IN A SANDBOX (cutbox-rows.mjs): the forced cells as the released guide's own fill.sh prints them over the translation 769ac9bed30a196f… (all of the seat's roots in one cut). By AI agents, Wed Nov 11 2026. No macro, syntax, notation, axiom, sorry.
-/
import Derived.Test.YtkabhpmnhdhodaaChecked
import GoSem.Claim
import GoSem.ClaimJoined
import GoSem.ClaimMapViews
import Derived.JoinedTies
import Derived.KernelRfl
namespace Go.Proofs.Ytkabhpmnhdhodaa
/- THE CELL 'sum', in the pinned program and in every row, IS THE sha256 OF THE DUMP (.gsa) THAT YtkabhpmnhdhodaaProg.lean LOADS. Nothing in Lean hashes anything: it is a label: what it is worth is what the hold of that sum in a sandbox is worth. -/
noncomputable def Try.pinned : Pinned := { name := "ytkabhpmnhdhodaa", sum := "769ac9bed30a196fa4a188b43fcd35748864724a1db4b3d5e418e72d203d2ba9", checked := Try.checked }
namespace Rows
def none {H : Type} : Left H := { results := [], args := [] }

/-- 'jobmuxlaw03.BurstAllows': WHATEVER THE INPUT: true; the input reads as it did. -/
def burstAllowsSpec : ChangeSpec := { name := "burstAllows", fn := fun _ => fun
  | [d1, d2, d3, d4] => { results := [.lit (.bool true)], args := [d1, d2, d3, d4] }
  | _ => none }
def burstAllowsRow : OpenClaim := { program := "ytkabhpmnhdhodaa", sum := "769ac9bed30a196fa4a188b43fcd35748864724a1db4b3d5e418e72d203d2ba9", func := "jobmux/jobmuxlaw03.BurstAllows", spec := "burstAllows", inPlace := ["math/bits.Sub64"], unfollowed := true, recurses := true, apart := false }
def BurstAllowsSaid : Prop := burstAllowsRow.holds Try.pinned (OpenSpec.ofChange burstAllowsSpec)

/-- ITS FALSE NEIGHBOUR: 'it returns false'. Refute it at one input. -/
def burstAllowsWrong : ChangeSpec := { name := "burstAllows", fn := fun _ => fun
  | [d1, d2, d3, d4] => { results := [.lit (.bool false)], args := [d1, d2, d3, d4] }
  | _ => none }
def BurstAllowsWrongFalsely : Prop := burstAllowsRow.holds Try.pinned (OpenSpec.ofChange burstAllowsWrong)

/-- 'jobmuxlaw03.BurstPlays': WHATEVER THE INPUT: true; the input reads as it did. -/
def burstPlaysSpec : ChangeSpec := { name := "burstPlays", fn := fun _ => fun
  | [d1, d2, d3] => { results := [.lit (.bool true)], args := [d1, d2, d3] }
  | _ => none }
def burstPlaysRow : OpenClaim := { program := "ytkabhpmnhdhodaa", sum := "769ac9bed30a196fa4a188b43fcd35748864724a1db4b3d5e418e72d203d2ba9", func := "jobmux/jobmuxlaw03.BurstPlays", spec := "burstPlays", inPlace := ["math/bits.Sub64"], unfollowed := true, recurses := true, apart := false }
def BurstPlaysSaid : Prop := burstPlaysRow.holds Try.pinned (OpenSpec.ofChange burstPlaysSpec)

/-- ITS FALSE NEIGHBOUR: 'it returns false'. Refute it at one input. -/
def burstPlaysWrong : ChangeSpec := { name := "burstPlays", fn := fun _ => fun
  | [d1, d2, d3] => { results := [.lit (.bool false)], args := [d1, d2, d3] }
  | _ => none }
def BurstPlaysWrongFalsely : Prop := burstPlaysRow.holds Try.pinned (OpenSpec.ofChange burstPlaysWrong)

/-- 'jobmuxlaw03.BurstLimits': WHATEVER THE INPUT: true; the input reads as it did. -/
def burstLimitsSpec : ChangeSpec := { name := "burstLimits", fn := fun _ => fun
  | [d1, d2, d3] => { results := [.lit (.bool true)], args := [d1, d2, d3] }
  | _ => none }
def burstLimitsRow : OpenClaim := { program := "ytkabhpmnhdhodaa", sum := "769ac9bed30a196fa4a188b43fcd35748864724a1db4b3d5e418e72d203d2ba9", func := "jobmux/jobmuxlaw03.BurstLimits", spec := "burstLimits", inPlace := ["math/bits.Sub64"], unfollowed := true, recurses := true, apart := false }
def BurstLimitsSaid : Prop := burstLimitsRow.holds Try.pinned (OpenSpec.ofChange burstLimitsSpec)

/-- ITS FALSE NEIGHBOUR: 'it returns false'. Refute it at one input. -/
def burstLimitsWrong : ChangeSpec := { name := "burstLimits", fn := fun _ => fun
  | [d1, d2, d3] => { results := [.lit (.bool false)], args := [d1, d2, d3] }
  | _ => none }
def BurstLimitsWrongFalsely : Prop := burstLimitsRow.holds Try.pinned (OpenSpec.ofChange burstLimitsWrong)

/-- 'jobmuxlaw03.BurstForgets': WHATEVER THE INPUT: true; the input reads as it did. -/
def burstForgetsSpec : ChangeSpec := { name := "burstForgets", fn := fun _ => fun
  | [d1, d2, d3, d4] => { results := [.lit (.bool true)], args := [d1, d2, d3, d4] }
  | _ => none }
def burstForgetsRow : OpenClaim := { program := "ytkabhpmnhdhodaa", sum := "769ac9bed30a196fa4a188b43fcd35748864724a1db4b3d5e418e72d203d2ba9", func := "jobmux/jobmuxlaw03.BurstForgets", spec := "burstForgets", inPlace := ["math/bits.Sub64"], unfollowed := true, recurses := true, apart := false }
def BurstForgetsSaid : Prop := burstForgetsRow.holds Try.pinned (OpenSpec.ofChange burstForgetsSpec)

/-- ITS FALSE NEIGHBOUR: 'it returns false'. Refute it at one input. -/
def burstForgetsWrong : ChangeSpec := { name := "burstForgets", fn := fun _ => fun
  | [d1, d2, d3, d4] => { results := [.lit (.bool false)], args := [d1, d2, d3, d4] }
  | _ => none }
def BurstForgetsWrongFalsely : Prop := burstForgetsRow.holds Try.pinned (OpenSpec.ofChange burstForgetsWrong)

/- THE SECOND FORM. 'bulk': how many values and letters a reading holds, each counted each time it is reached (what is shared counts as often as it is met; a slice's spare places count too). A statement '..UptoSaid' is the law's where the arguments, and the package variables that the reading takes, are together of bulk at most 1048576: NARROWER than '..Said'. Prove '..Said' where nothing that the law and all that it calls make is longer than what came in: it says more and counts as full. Else prove '..UptoSaid'. A law counts once. -/
mutual
def uptoBulk {H : Type} : DataW H → Nat
  | .lit (.string bytes) => bytes.length + 1
  | .lit _ => 1
  | .nil => 1
  | .ptr d => uptoBulk d + 1
  | .slice elems spare => uptoBulkAll elems + uptoBulkAll spare + 1
  | .agg parts => uptoBulkAll parts + 1
  | .iface _ d => uptoBulk d + 1
  | .map entries => uptoBulkEntries entries + 1
  | .held _ => 1
def uptoBulkAll {H : Type} : List (DataW H) → Nat
  | [] => 0
  | d :: r => uptoBulk d + uptoBulkAll r
def uptoBulkEntries {H : Type} : List (Lit × DataW H) → Nat
  | [] => 0
  | x :: r => uptoBulkEntry x + uptoBulkEntries r
def uptoBulkEntry {H : Type} : Lit × DataW H → Nat
  | (.string bytes, d) => bytes.length + uptoBulk d + 1
  | (_, d) => uptoBulk d + 1
 end
def uptoSmall : (H : Type) → List (DataW H) → Bool := fun _ ds => decide (uptoBulkAll ds ≤ 1048576)
def OpenSpec.upto (s : _root_.Go.ChangeSpec) : _root_.Go.OpenSpec := { _root_.Go.OpenSpec.ofChange s with cond := some uptoSmall }

/-- 'jobmuxlaw03.BurstAllows', WHERE WHAT IT READS IS OF BULK AT MOST 1048576: true; the input reads as it did. -/
def burstAllowsUptoRow : OpenClaim := { program := "ytkabhpmnhdhodaa", sum := "769ac9bed30a196fa4a188b43fcd35748864724a1db4b3d5e418e72d203d2ba9", func := "jobmux/jobmuxlaw03.BurstAllows", spec := "burstAllows", inPlace := ["math/bits.Sub64"], unfollowed := true, recurses := true, apart := false, narrowed := true }
def BurstAllowsUptoSaid : Prop := burstAllowsUptoRow.holds Try.pinned (OpenSpec.upto burstAllowsSpec)

/-- 'jobmuxlaw03.BurstPlays', WHERE WHAT IT READS IS OF BULK AT MOST 1048576: true; the input reads as it did. -/
def burstPlaysUptoRow : OpenClaim := { program := "ytkabhpmnhdhodaa", sum := "769ac9bed30a196fa4a188b43fcd35748864724a1db4b3d5e418e72d203d2ba9", func := "jobmux/jobmuxlaw03.BurstPlays", spec := "burstPlays", inPlace := ["math/bits.Sub64"], unfollowed := true, recurses := true, apart := false, narrowed := true }
def BurstPlaysUptoSaid : Prop := burstPlaysUptoRow.holds Try.pinned (OpenSpec.upto burstPlaysSpec)

/-- 'jobmuxlaw03.BurstLimits', WHERE WHAT IT READS IS OF BULK AT MOST 1048576: true; the input reads as it did. -/
def burstLimitsUptoRow : OpenClaim := { program := "ytkabhpmnhdhodaa", sum := "769ac9bed30a196fa4a188b43fcd35748864724a1db4b3d5e418e72d203d2ba9", func := "jobmux/jobmuxlaw03.BurstLimits", spec := "burstLimits", inPlace := ["math/bits.Sub64"], unfollowed := true, recurses := true, apart := false, narrowed := true }
def BurstLimitsUptoSaid : Prop := burstLimitsUptoRow.holds Try.pinned (OpenSpec.upto burstLimitsSpec)

/-- 'jobmuxlaw03.BurstForgets', WHERE WHAT IT READS IS OF BULK AT MOST 1048576: true; the input reads as it did. -/
def burstForgetsUptoRow : OpenClaim := { program := "ytkabhpmnhdhodaa", sum := "769ac9bed30a196fa4a188b43fcd35748864724a1db4b3d5e418e72d203d2ba9", func := "jobmux/jobmuxlaw03.BurstForgets", spec := "burstForgets", inPlace := ["math/bits.Sub64"], unfollowed := true, recurses := true, apart := false, narrowed := true }
def BurstForgetsUptoSaid : Prop := burstForgetsUptoRow.holds Try.pinned (OpenSpec.upto burstForgetsSpec)

end Rows
end Go.Proofs.Ytkabhpmnhdhodaa
