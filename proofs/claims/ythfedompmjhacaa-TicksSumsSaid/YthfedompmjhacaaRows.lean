/-
  No cell of these rows narrows 'for every input' (looked for: loops, veiled, ifaces, maps, wideKeys, modest, calm, conditions, laid).
  DERIVED. THE GIVEN ROWS OF THIS SEAT. 5 by the template 'for every input the law returns true; each argument reads behind the call as it read before'; 0 by the template 'total and deterministic' (their statements: YthfedompmjhacaaTotals.lean).
  GIVEN WITH THE SEED: the statements are not yours to turn. If you find one false, say at which input.
  Laid BY PROGRAM, IN A SANDBOX (cutbox-rows.mjs): the forced cells as the released guide's own fill.sh prints them over the translation 2899d1d9dc239b5f… (all of the seat's roots in one cut). By AI agents, Wed Nov 11 2026. No macro, syntax, notation, axiom, sorry.
-/
import Derived.Test.YthfedompmjhacaaChecked
import GoSem.Claim
import GoSem.ClaimJoined
import GoSem.ClaimMapViews
import Derived.JoinedTies
import Derived.KernelRfl
namespace Go.Proofs.Ythfedompmjhacaa
/- THE CELL 'sum', in the pinned program and in every row, IS THE sha256 OF THE DUMP (.gsa) THAT YthfedompmjhacaaProg.lean LOADS. Nothing in Lean hashes anything: it is a label: what it is worth is what the hold of that sum in a sandbox is worth. -/
noncomputable def Try.pinned : Pinned := { name := "ythfedompmjhacaa", sum := "2899d1d9dc239b5fc0e5fa6d87297947470651f3c7094af39c5ea4e6f1c19abe", checked := Try.checked }
namespace Rows
def none {H : Type} : Left H := { results := [], args := [] }

/-- 'jobmuxlaw01.TicksSums': WHATEVER THE INPUT: true; the input reads as it did. -/
def ticksSumsSpec : ChangeSpec := { name := "ticksSums", fn := fun _ => fun
  | [d1, d2, d3] => { results := [.lit (.bool true)], args := [d1, d2, d3] }
  | _ => none }
def ticksSumsRow : OpenClaim := { program := "ythfedompmjhacaa", sum := "2899d1d9dc239b5fc0e5fa6d87297947470651f3c7094af39c5ea4e6f1c19abe", func := "jobmux/jobmuxlaw01.TicksSums", spec := "ticksSums", inPlace := ["math/bits.Add64", "math/bits.Sub64"], apart := false }
def TicksSumsSaid : Prop := ticksSumsRow.holds Try.pinned (OpenSpec.ofChange ticksSumsSpec)

/-- ITS FALSE NEIGHBOUR: 'it returns false'. Refute it at one input. -/
def ticksSumsWrong : ChangeSpec := { name := "ticksSums", fn := fun _ => fun
  | [d1, d2, d3] => { results := [.lit (.bool false)], args := [d1, d2, d3] }
  | _ => none }
def TicksSumsWrongFalsely : Prop := ticksSumsRow.holds Try.pinned (OpenSpec.ofChange ticksSumsWrong)

/-- 'jobmuxlaw01.TicksDelays': WHATEVER THE INPUT: true; the input reads as it did. -/
def ticksDelaysSpec : ChangeSpec := { name := "ticksDelays", fn := fun _ => fun
  | [d1, d2, d3, d4] => { results := [.lit (.bool true)], args := [d1, d2, d3, d4] }
  | _ => none }
def ticksDelaysRow : OpenClaim := { program := "ythfedompmjhacaa", sum := "2899d1d9dc239b5fc0e5fa6d87297947470651f3c7094af39c5ea4e6f1c19abe", func := "jobmux/jobmuxlaw01.TicksDelays", spec := "ticksDelays", inPlace := ["math/bits.Add64", "math/bits.Sub64"], apart := false }
def TicksDelaysSaid : Prop := ticksDelaysRow.holds Try.pinned (OpenSpec.ofChange ticksDelaysSpec)

/-- ITS FALSE NEIGHBOUR: 'it returns false'. Refute it at one input. -/
def ticksDelaysWrong : ChangeSpec := { name := "ticksDelays", fn := fun _ => fun
  | [d1, d2, d3, d4] => { results := [.lit (.bool false)], args := [d1, d2, d3, d4] }
  | _ => none }
def TicksDelaysWrongFalsely : Prop := ticksDelaysRow.holds Try.pinned (OpenSpec.ofChange ticksDelaysWrong)

/-- 'jobmuxlaw01.TicksRing': WHATEVER THE INPUT: true; the input reads as it did. -/
def ticksRingSpec : ChangeSpec := { name := "ticksRing", fn := fun _ => fun
  | [d1, d2, d3] => { results := [.lit (.bool true)], args := [d1, d2, d3] }
  | _ => none }
def ticksRingRow : OpenClaim := { program := "ythfedompmjhacaa", sum := "2899d1d9dc239b5fc0e5fa6d87297947470651f3c7094af39c5ea4e6f1c19abe", func := "jobmux/jobmuxlaw01.TicksRing", spec := "ticksRing", inPlace := ["math/bits.Add64", "math/bits.Sub64"], apart := false }
def TicksRingSaid : Prop := ticksRingRow.holds Try.pinned (OpenSpec.ofChange ticksRingSpec)

/-- ITS FALSE NEIGHBOUR: 'it returns false'. Refute it at one input. -/
def ticksRingWrong : ChangeSpec := { name := "ticksRing", fn := fun _ => fun
  | [d1, d2, d3] => { results := [.lit (.bool false)], args := [d1, d2, d3] }
  | _ => none }
def TicksRingWrongFalsely : Prop := ticksRingRow.holds Try.pinned (OpenSpec.ofChange ticksRingWrong)

/-- 'jobmuxlaw01.TicksGrows': WHATEVER THE INPUT: true; the input reads as it did. -/
def ticksGrowsSpec : ChangeSpec := { name := "ticksGrows", fn := fun _ => fun
  | [d1, d2, d3, d4, d5, d6] => { results := [.lit (.bool true)], args := [d1, d2, d3, d4, d5, d6] }
  | _ => none }
def ticksGrowsRow : OpenClaim := { program := "ythfedompmjhacaa", sum := "2899d1d9dc239b5fc0e5fa6d87297947470651f3c7094af39c5ea4e6f1c19abe", func := "jobmux/jobmuxlaw01.TicksGrows", spec := "ticksGrows", inPlace := ["math/bits.Add64", "math/bits.Sub64"], apart := false }
def TicksGrowsSaid : Prop := ticksGrowsRow.holds Try.pinned (OpenSpec.ofChange ticksGrowsSpec)

/-- ITS FALSE NEIGHBOUR: 'it returns false'. Refute it at one input. -/
def ticksGrowsWrong : ChangeSpec := { name := "ticksGrows", fn := fun _ => fun
  | [d1, d2, d3, d4, d5, d6] => { results := [.lit (.bool false)], args := [d1, d2, d3, d4, d5, d6] }
  | _ => none }
def TicksGrowsWrongFalsely : Prop := ticksGrowsRow.holds Try.pinned (OpenSpec.ofChange ticksGrowsWrong)

/-- 'jobmuxlaw01.TicksDoubles': WHATEVER THE INPUT: true; the input reads as it did. -/
def ticksDoublesSpec : ChangeSpec := { name := "ticksDoubles", fn := fun _ => fun
  | [d1, d2, d3] => { results := [.lit (.bool true)], args := [d1, d2, d3] }
  | _ => none }
def ticksDoublesRow : OpenClaim := { program := "ythfedompmjhacaa", sum := "2899d1d9dc239b5fc0e5fa6d87297947470651f3c7094af39c5ea4e6f1c19abe", func := "jobmux/jobmuxlaw01.TicksDoubles", spec := "ticksDoubles", inPlace := ["math/bits.Add64", "math/bits.Sub64"], apart := false }
def TicksDoublesSaid : Prop := ticksDoublesRow.holds Try.pinned (OpenSpec.ofChange ticksDoublesSpec)

/-- ITS FALSE NEIGHBOUR: 'it returns false'. Refute it at one input. -/
def ticksDoublesWrong : ChangeSpec := { name := "ticksDoubles", fn := fun _ => fun
  | [d1, d2, d3] => { results := [.lit (.bool false)], args := [d1, d2, d3] }
  | _ => none }
def TicksDoublesWrongFalsely : Prop := ticksDoublesRow.holds Try.pinned (OpenSpec.ofChange ticksDoublesWrong)

/- THE SECOND FORM. 'bulk': how many values and letters a reading holds, each counted each time it is reached (what is shared counts as often as it is met; a slice's spare places count too). A statement '..UptoSaid' is the law's where the arguments, and the package variables that the reading takes, are together of bulk at most 1048576: NARROWER than '..Said'. Prove '..Said' where nothing that the law and all that it calls make is longer than what came in: it says more and counts as full. Else prove '..UptoSaid'. A law counts once. -/
mutual
def uptoBulk {H : Type} : DataW H → Nat
  | .lit (.string bytes) => bytes.length + 1
  | .lit _ => 1
  | .nil => 1
  | .ptr d => uptoBulk d + 1
  | .slice elems spare => uptoBulkAll elems + uptoBulkAll spare + 1
  | .agg parts => uptoBulkAll parts + 1
  | .iface _ d => uptoBulk d + 1
  | .map entries => uptoBulkEntries entries + 1
  | .held _ => 1
def uptoBulkAll {H : Type} : List (DataW H) → Nat
  | [] => 0
  | d :: r => uptoBulk d + uptoBulkAll r
def uptoBulkEntries {H : Type} : List (Lit × DataW H) → Nat
  | [] => 0
  | x :: r => uptoBulkEntry x + uptoBulkEntries r
def uptoBulkEntry {H : Type} : Lit × DataW H → Nat
  | (.string bytes, d) => bytes.length + uptoBulk d + 1
  | (_, d) => uptoBulk d + 1
 end
def uptoSmall : (H : Type) → List (DataW H) → Bool := fun _ ds => decide (uptoBulkAll ds ≤ 1048576)
def OpenSpec.upto (s : _root_.Go.ChangeSpec) : _root_.Go.OpenSpec := { _root_.Go.OpenSpec.ofChange s with cond := some uptoSmall }

/-- 'jobmuxlaw01.TicksSums', WHERE WHAT IT READS IS OF BULK AT MOST 1048576: true; the input reads as it did. -/
def ticksSumsUptoRow : OpenClaim := { program := "ythfedompmjhacaa", sum := "2899d1d9dc239b5fc0e5fa6d87297947470651f3c7094af39c5ea4e6f1c19abe", func := "jobmux/jobmuxlaw01.TicksSums", spec := "ticksSums", inPlace := ["math/bits.Add64", "math/bits.Sub64"], apart := false, narrowed := true }
def TicksSumsUptoSaid : Prop := ticksSumsUptoRow.holds Try.pinned (OpenSpec.upto ticksSumsSpec)

/-- 'jobmuxlaw01.TicksDelays', WHERE WHAT IT READS IS OF BULK AT MOST 1048576: true; the input reads as it did. -/
def ticksDelaysUptoRow : OpenClaim := { program := "ythfedompmjhacaa", sum := "2899d1d9dc239b5fc0e5fa6d87297947470651f3c7094af39c5ea4e6f1c19abe", func := "jobmux/jobmuxlaw01.TicksDelays", spec := "ticksDelays", inPlace := ["math/bits.Add64", "math/bits.Sub64"], apart := false, narrowed := true }
def TicksDelaysUptoSaid : Prop := ticksDelaysUptoRow.holds Try.pinned (OpenSpec.upto ticksDelaysSpec)

/-- 'jobmuxlaw01.TicksRing', WHERE WHAT IT READS IS OF BULK AT MOST 1048576: true; the input reads as it did. -/
def ticksRingUptoRow : OpenClaim := { program := "ythfedompmjhacaa", sum := "2899d1d9dc239b5fc0e5fa6d87297947470651f3c7094af39c5ea4e6f1c19abe", func := "jobmux/jobmuxlaw01.TicksRing", spec := "ticksRing", inPlace := ["math/bits.Add64", "math/bits.Sub64"], apart := false, narrowed := true }
def TicksRingUptoSaid : Prop := ticksRingUptoRow.holds Try.pinned (OpenSpec.upto ticksRingSpec)

/-- 'jobmuxlaw01.TicksGrows', WHERE WHAT IT READS IS OF BULK AT MOST 1048576: true; the input reads as it did. -/
def ticksGrowsUptoRow : OpenClaim := { program := "ythfedompmjhacaa", sum := "2899d1d9dc239b5fc0e5fa6d87297947470651f3c7094af39c5ea4e6f1c19abe", func := "jobmux/jobmuxlaw01.TicksGrows", spec := "ticksGrows", inPlace := ["math/bits.Add64", "math/bits.Sub64"], apart := false, narrowed := true }
def TicksGrowsUptoSaid : Prop := ticksGrowsUptoRow.holds Try.pinned (OpenSpec.upto ticksGrowsSpec)

/-- 'jobmuxlaw01.TicksDoubles', WHERE WHAT IT READS IS OF BULK AT MOST 1048576: true; the input reads as it did. -/
def ticksDoublesUptoRow : OpenClaim := { program := "ythfedompmjhacaa", sum := "2899d1d9dc239b5fc0e5fa6d87297947470651f3c7094af39c5ea4e6f1c19abe", func := "jobmux/jobmuxlaw01.TicksDoubles", spec := "ticksDoubles", inPlace := ["math/bits.Add64", "math/bits.Sub64"], apart := false, narrowed := true }
def TicksDoublesUptoSaid : Prop := ticksDoublesUptoRow.holds Try.pinned (OpenSpec.upto ticksDoublesSpec)

end Rows
end Go.Proofs.Ythfedompmjhacaa
