/-
  No cell of these rows narrows 'for every input' (looked for: loops, veiled, ifaces, maps, wideKeys, modest, calm, conditions, laid).
  DERIVED. THE GIVEN ROWS OF THIS SEAT. 6 by the template 'for every input the law returns true; each argument reads behind the call as it read before'; 0 by the template 'total and deterministic' (their statements: YtkippgdboodlfaaTotals.lean).
  GIVEN WITH THE SEED: the statements are not yours to turn. If you find one false, say at which input.
  Laid BY PROGRAM, IN A SANDBOX (cutbox-rows.mjs): the forced cells as the released guide's own fill.sh prints them over the translation 11101561d6d43c8b… (all of the seat's roots in one cut). By AI agents, Wed Nov 11 2026. No macro, syntax, notation, axiom, sorry.
-/
import Derived.Test.YtkippgdboodlfaaChecked
import GoSem.Claim
import GoSem.ClaimJoined
import GoSem.ClaimMapViews
import Derived.JoinedTies
import Derived.KernelRfl
namespace Go.Proofs.Ytkippgdboodlfaa
/- THE CELL 'sum', in the pinned program and in every row, IS THE sha256 OF THE DUMP (.gsa) THAT YtkippgdboodlfaaProg.lean LOADS. Nothing in Lean hashes anything: it is a label: what it is worth is what the hold of that sum in a sandbox is worth. -/
noncomputable def Try.pinned : Pinned := { name := "ytkippgdboodlfaa", sum := "11101561d6d43c8b612568af5a9db6e9e6bc26ff49eaec782b1b5c2e801bd991", checked := Try.checked }
namespace Rows
def none {H : Type} : Left H := { results := [], args := [] }

/-- 'sutlerlaw01.AmountNumbers': WHATEVER THE INPUT: true; the input reads as it did. -/
def amountNumbersSpec : ChangeSpec := { name := "amountNumbers", fn := fun _ => fun
  | [] => { results := [.lit (.bool true)], args := [] }
  | _ => none }
def amountNumbersRow : OpenClaim := { program := "ytkippgdboodlfaa", sum := "11101561d6d43c8b612568af5a9db6e9e6bc26ff49eaec782b1b5c2e801bd991", func := "sutler/sutlerlaw01.AmountNumbers", spec := "amountNumbers", apart := false }
def AmountNumbersSaid : Prop := amountNumbersRow.holds Try.pinned (OpenSpec.ofChange amountNumbersSpec)

/-- ITS FALSE NEIGHBOUR: 'it returns false'. Refute it at one input. -/
def amountNumbersWrong : ChangeSpec := { name := "amountNumbers", fn := fun _ => fun
  | [] => { results := [.lit (.bool false)], args := [] }
  | _ => none }
def AmountNumbersWrongFalsely : Prop := amountNumbersRow.holds Try.pinned (OpenSpec.ofChange amountNumbersWrong)

/-- 'sutlerlaw01.AmountChecks': WHATEVER THE INPUT: true; the input reads as it did. -/
def amountChecksSpec : ChangeSpec := { name := "amountChecks", fn := fun _ => fun
  | [d1, d2] => { results := [.lit (.bool true)], args := [d1, d2] }
  | _ => none }
def amountChecksRow : OpenClaim := { program := "ytkippgdboodlfaa", sum := "11101561d6d43c8b612568af5a9db6e9e6bc26ff49eaec782b1b5c2e801bd991", func := "sutler/sutlerlaw01.AmountChecks", spec := "amountChecks", apart := false }
def AmountChecksSaid : Prop := amountChecksRow.holds Try.pinned (OpenSpec.ofChange amountChecksSpec)

/-- ITS FALSE NEIGHBOUR: 'it returns false'. Refute it at one input. -/
def amountChecksWrong : ChangeSpec := { name := "amountChecks", fn := fun _ => fun
  | [d1, d2] => { results := [.lit (.bool false)], args := [d1, d2] }
  | _ => none }
def AmountChecksWrongFalsely : Prop := amountChecksRow.holds Try.pinned (OpenSpec.ofChange amountChecksWrong)

/-- 'sutlerlaw01.AmountSums': WHATEVER THE INPUT: true; the input reads as it did. -/
def amountSumsSpec : ChangeSpec := { name := "amountSums", fn := fun _ => fun
  | [d1, d2] => { results := [.lit (.bool true)], args := [d1, d2] }
  | _ => none }
def amountSumsRow : OpenClaim := { program := "ytkippgdboodlfaa", sum := "11101561d6d43c8b612568af5a9db6e9e6bc26ff49eaec782b1b5c2e801bd991", func := "sutler/sutlerlaw01.AmountSums", spec := "amountSums", apart := false }
def AmountSumsSaid : Prop := amountSumsRow.holds Try.pinned (OpenSpec.ofChange amountSumsSpec)

/-- ITS FALSE NEIGHBOUR: 'it returns false'. Refute it at one input. -/
def amountSumsWrong : ChangeSpec := { name := "amountSums", fn := fun _ => fun
  | [d1, d2] => { results := [.lit (.bool false)], args := [d1, d2] }
  | _ => none }
def AmountSumsWrongFalsely : Prop := amountSumsRow.holds Try.pinned (OpenSpec.ofChange amountSumsWrong)

/-- 'sutlerlaw01.AmountTotals': WHATEVER THE INPUT: true; the input reads as it did. -/
def amountTotalsSpec : ChangeSpec := { name := "amountTotals", fn := fun _ => fun
  | [d1, d2] => { results := [.lit (.bool true)], args := [d1, d2] }
  | _ => none }
def amountTotalsRow : OpenClaim := { program := "ytkippgdboodlfaa", sum := "11101561d6d43c8b612568af5a9db6e9e6bc26ff49eaec782b1b5c2e801bd991", func := "sutler/sutlerlaw01.AmountTotals", spec := "amountTotals", apart := false }
def AmountTotalsSaid : Prop := amountTotalsRow.holds Try.pinned (OpenSpec.ofChange amountTotalsSpec)

/-- ITS FALSE NEIGHBOUR: 'it returns false'. Refute it at one input. -/
def amountTotalsWrong : ChangeSpec := { name := "amountTotals", fn := fun _ => fun
  | [d1, d2] => { results := [.lit (.bool false)], args := [d1, d2] }
  | _ => none }
def AmountTotalsWrongFalsely : Prop := amountTotalsRow.holds Try.pinned (OpenSpec.ofChange amountTotalsWrong)

/-- 'sutlerlaw01.AmountPacks': WHATEVER THE INPUT: true; the input reads as it did. -/
def amountPacksSpec : ChangeSpec := { name := "amountPacks", fn := fun _ => fun
  | [d1, d2] => { results := [.lit (.bool true)], args := [d1, d2] }
  | _ => none }
def amountPacksRow : OpenClaim := { program := "ytkippgdboodlfaa", sum := "11101561d6d43c8b612568af5a9db6e9e6bc26ff49eaec782b1b5c2e801bd991", func := "sutler/sutlerlaw01.AmountPacks", spec := "amountPacks", apart := false }
def AmountPacksSaid : Prop := amountPacksRow.holds Try.pinned (OpenSpec.ofChange amountPacksSpec)

/-- ITS FALSE NEIGHBOUR: 'it returns false'. Refute it at one input. -/
def amountPacksWrong : ChangeSpec := { name := "amountPacks", fn := fun _ => fun
  | [d1, d2] => { results := [.lit (.bool false)], args := [d1, d2] }
  | _ => none }
def AmountPacksWrongFalsely : Prop := amountPacksRow.holds Try.pinned (OpenSpec.ofChange amountPacksWrong)

/-- 'sutlerlaw01.AmountBack': WHATEVER THE INPUT: true; the input reads as it did. -/
def amountBackSpec : ChangeSpec := { name := "amountBack", fn := fun _ => fun
  | [d1, d2, d3] => { results := [.lit (.bool true)], args := [d1, d2, d3] }
  | _ => none }
def amountBackRow : OpenClaim := { program := "ytkippgdboodlfaa", sum := "11101561d6d43c8b612568af5a9db6e9e6bc26ff49eaec782b1b5c2e801bd991", func := "sutler/sutlerlaw01.AmountBack", spec := "amountBack", apart := false }
def AmountBackSaid : Prop := amountBackRow.holds Try.pinned (OpenSpec.ofChange amountBackSpec)

/-- ITS FALSE NEIGHBOUR: 'it returns false'. Refute it at one input. -/
def amountBackWrong : ChangeSpec := { name := "amountBack", fn := fun _ => fun
  | [d1, d2, d3] => { results := [.lit (.bool false)], args := [d1, d2, d3] }
  | _ => none }
def AmountBackWrongFalsely : Prop := amountBackRow.holds Try.pinned (OpenSpec.ofChange amountBackWrong)

/- THE SECOND FORM. 'bulk': how many values and letters a reading holds, each counted each time it is reached (what is shared counts as often as it is met; a slice's spare places count too). A statement '..UptoSaid' is the law's where the arguments, and the package variables that the reading takes, are together of bulk at most 1048576: NARROWER than '..Said'. Prove '..Said' where nothing that the law and all that it calls make is longer than what came in: it says more and counts as full. Else prove '..UptoSaid'. A law counts once. -/
mutual
def uptoBulk {H : Type} : DataW H → Nat
  | .lit (.string bytes) => bytes.length + 1
  | .lit _ => 1
  | .nil => 1
  | .ptr d => uptoBulk d + 1
  | .slice elems spare => uptoBulkAll elems + uptoBulkAll spare + 1
  | .agg parts => uptoBulkAll parts + 1
  | .iface _ d => uptoBulk d + 1
  | .map entries => uptoBulkEntries entries + 1
  | .held _ => 1
def uptoBulkAll {H : Type} : List (DataW H) → Nat
  | [] => 0
  | d :: r => uptoBulk d + uptoBulkAll r
def uptoBulkEntries {H : Type} : List (Lit × DataW H) → Nat
  | [] => 0
  | x :: r => uptoBulkEntry x + uptoBulkEntries r
def uptoBulkEntry {H : Type} : Lit × DataW H → Nat
  | (.string bytes, d) => bytes.length + uptoBulk d + 1
  | (_, d) => uptoBulk d + 1
 end
def uptoSmall : (H : Type) → List (DataW H) → Bool := fun _ ds => decide (uptoBulkAll ds ≤ 1048576)
def OpenSpec.upto (s : _root_.Go.ChangeSpec) : _root_.Go.OpenSpec := { _root_.Go.OpenSpec.ofChange s with cond := some uptoSmall }

/-- 'sutlerlaw01.AmountNumbers', WHERE WHAT IT READS IS OF BULK AT MOST 1048576: true; the input reads as it did. -/
def amountNumbersUptoRow : OpenClaim := { program := "ytkippgdboodlfaa", sum := "11101561d6d43c8b612568af5a9db6e9e6bc26ff49eaec782b1b5c2e801bd991", func := "sutler/sutlerlaw01.AmountNumbers", spec := "amountNumbers", apart := false, narrowed := true }
def AmountNumbersUptoSaid : Prop := amountNumbersUptoRow.holds Try.pinned (OpenSpec.upto amountNumbersSpec)

/-- 'sutlerlaw01.AmountChecks', WHERE WHAT IT READS IS OF BULK AT MOST 1048576: true; the input reads as it did. -/
def amountChecksUptoRow : OpenClaim := { program := "ytkippgdboodlfaa", sum := "11101561d6d43c8b612568af5a9db6e9e6bc26ff49eaec782b1b5c2e801bd991", func := "sutler/sutlerlaw01.AmountChecks", spec := "amountChecks", apart := false, narrowed := true }
def AmountChecksUptoSaid : Prop := amountChecksUptoRow.holds Try.pinned (OpenSpec.upto amountChecksSpec)

/-- 'sutlerlaw01.AmountSums', WHERE WHAT IT READS IS OF BULK AT MOST 1048576: true; the input reads as it did. -/
def amountSumsUptoRow : OpenClaim := { program := "ytkippgdboodlfaa", sum := "11101561d6d43c8b612568af5a9db6e9e6bc26ff49eaec782b1b5c2e801bd991", func := "sutler/sutlerlaw01.AmountSums", spec := "amountSums", apart := false, narrowed := true }
def AmountSumsUptoSaid : Prop := amountSumsUptoRow.holds Try.pinned (OpenSpec.upto amountSumsSpec)

/-- 'sutlerlaw01.AmountTotals', WHERE WHAT IT READS IS OF BULK AT MOST 1048576: true; the input reads as it did. -/
def amountTotalsUptoRow : OpenClaim := { program := "ytkippgdboodlfaa", sum := "11101561d6d43c8b612568af5a9db6e9e6bc26ff49eaec782b1b5c2e801bd991", func := "sutler/sutlerlaw01.AmountTotals", spec := "amountTotals", apart := false, narrowed := true }
def AmountTotalsUptoSaid : Prop := amountTotalsUptoRow.holds Try.pinned (OpenSpec.upto amountTotalsSpec)

/-- 'sutlerlaw01.AmountPacks', WHERE WHAT IT READS IS OF BULK AT MOST 1048576: true; the input reads as it did. -/
def amountPacksUptoRow : OpenClaim := { program := "ytkippgdboodlfaa", sum := "11101561d6d43c8b612568af5a9db6e9e6bc26ff49eaec782b1b5c2e801bd991", func := "sutler/sutlerlaw01.AmountPacks", spec := "amountPacks", apart := false, narrowed := true }
def AmountPacksUptoSaid : Prop := amountPacksUptoRow.holds Try.pinned (OpenSpec.upto amountPacksSpec)

/-- 'sutlerlaw01.AmountBack', WHERE WHAT IT READS IS OF BULK AT MOST 1048576: true; the input reads as it did. -/
def amountBackUptoRow : OpenClaim := { program := "ytkippgdboodlfaa", sum := "11101561d6d43c8b612568af5a9db6e9e6bc26ff49eaec782b1b5c2e801bd991", func := "sutler/sutlerlaw01.AmountBack", spec := "amountBack", apart := false, narrowed := true }
def AmountBackUptoSaid : Prop := amountBackUptoRow.holds Try.pinned (OpenSpec.upto amountBackSpec)

end Rows
end Go.Proofs.Ytkippgdboodlfaa
