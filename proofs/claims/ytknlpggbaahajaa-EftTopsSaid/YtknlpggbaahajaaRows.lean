/-
  No cell of these rows narrows 'for every input' (looked for: loops, veiled, ifaces, maps, wideKeys, modest, calm, conditions, laid).
  DERIVED. THE GIVEN ROWS OF THIS SEAT. 6 by the template 'for every input the law returns true; each argument reads behind the call as it read before'; 0 by the template 'total and deterministic' (their statements: YtknlpggbaahajaaTotals.lean).
  GIVEN WITH THE SEED: the statements are not yours to turn. If you find one false, say at which input.
  Laid BY PROGRAM, IN A SANDBOX (cutbox-rows.mjs): the forced cells as the released guide's own fill.sh prints them over the translation b882c64c21bca3d4… (all of the seat's roots in one cut). By AI agents, Wed Nov 11 2026. No macro, syntax, notation, axiom, sorry.
-/
import Derived.Test.YtknlpggbaahajaaChecked
import GoSem.Claim
import GoSem.ClaimJoined
import GoSem.ClaimMapViews
import Derived.JoinedTies
import Derived.KernelRfl
namespace Go.Proofs.Ytknlpggbaahajaa
/- THE CELL 'sum', in the pinned program and in every row, IS THE sha256 OF THE DUMP (.gsa) THAT YtknlpggbaahajaaProg.lean LOADS. Nothing in Lean hashes anything: it is a label: what it is worth is what the hold of that sum in a sandbox is worth. -/
noncomputable def Try.pinned : Pinned := { name := "ytknlpggbaahajaa", sum := "b882c64c21bca3d476d9aa6a8ab513009ddd11738b8b15079057a74c81d65e38", checked := Try.checked }
namespace Rows
def none {H : Type} : Left H := { results := [], args := [] }

/-- 'diapasonlaw03.EftSums': WHATEVER THE INPUT: true; the input reads as it did. -/
def eftSumsSpec : ChangeSpec := { name := "eftSums", fn := fun _ => fun
  | [d1, d2] => { results := [.lit (.bool true)], args := [d1, d2] }
  | _ => none }
def eftSumsRow : OpenClaim := { program := "ytknlpggbaahajaa", sum := "b882c64c21bca3d476d9aa6a8ab513009ddd11738b8b15079057a74c81d65e38", func := "diapason/diapasonlaw03.EftSums", spec := "eftSums", inPlace := ["math.Float64frombits", "math.Float64bits"], apart := false }
def EftSumsSaid : Prop := eftSumsRow.holds Try.pinned (OpenSpec.ofChange eftSumsSpec)

/-- ITS FALSE NEIGHBOUR: 'it returns false'. Refute it at one input. -/
def eftSumsWrong : ChangeSpec := { name := "eftSums", fn := fun _ => fun
  | [d1, d2] => { results := [.lit (.bool false)], args := [d1, d2] }
  | _ => none }
def EftSumsWrongFalsely : Prop := eftSumsRow.holds Try.pinned (OpenSpec.ofChange eftSumsWrong)

/-- 'diapasonlaw03.EftSplits': WHATEVER THE INPUT: true; the input reads as it did. -/
def eftSplitsSpec : ChangeSpec := { name := "eftSplits", fn := fun _ => fun
  | [d] => { results := [.lit (.bool true)], args := [d] }
  | _ => none }
def eftSplitsRow : OpenClaim := { program := "ytknlpggbaahajaa", sum := "b882c64c21bca3d476d9aa6a8ab513009ddd11738b8b15079057a74c81d65e38", func := "diapason/diapasonlaw03.EftSplits", spec := "eftSplits", inPlace := ["math.Float64frombits", "math.Float64bits"], apart := false }
def EftSplitsSaid : Prop := eftSplitsRow.holds Try.pinned (OpenSpec.ofChange eftSplitsSpec)

/-- ITS FALSE NEIGHBOUR: 'it returns false'. Refute it at one input. -/
def eftSplitsWrong : ChangeSpec := { name := "eftSplits", fn := fun _ => fun
  | [d] => { results := [.lit (.bool false)], args := [d] }
  | _ => none }
def EftSplitsWrongFalsely : Prop := eftSplitsRow.holds Try.pinned (OpenSpec.ofChange eftSplitsWrong)

/-- 'diapasonlaw03.EftProds': WHATEVER THE INPUT: true; the input reads as it did. -/
def eftProdsSpec : ChangeSpec := { name := "eftProds", fn := fun _ => fun
  | [d1, d2] => { results := [.lit (.bool true)], args := [d1, d2] }
  | _ => none }
def eftProdsRow : OpenClaim := { program := "ytknlpggbaahajaa", sum := "b882c64c21bca3d476d9aa6a8ab513009ddd11738b8b15079057a74c81d65e38", func := "diapason/diapasonlaw03.EftProds", spec := "eftProds", inPlace := ["math.Float64frombits", "math.Float64bits"], apart := false }
def EftProdsSaid : Prop := eftProdsRow.holds Try.pinned (OpenSpec.ofChange eftProdsSpec)

/-- ITS FALSE NEIGHBOUR: 'it returns false'. Refute it at one input. -/
def eftProdsWrong : ChangeSpec := { name := "eftProds", fn := fun _ => fun
  | [d1, d2] => { results := [.lit (.bool false)], args := [d1, d2] }
  | _ => none }
def EftProdsWrongFalsely : Prop := eftProdsRow.holds Try.pinned (OpenSpec.ofChange eftProdsWrong)

/-- 'diapasonlaw03.EftMild': WHATEVER THE INPUT: true; the input reads as it did. -/
def eftMildSpec : ChangeSpec := { name := "eftMild", fn := fun _ => fun
  | [d] => { results := [.lit (.bool true)], args := [d] }
  | _ => none }
def eftMildRow : OpenClaim := { program := "ytknlpggbaahajaa", sum := "b882c64c21bca3d476d9aa6a8ab513009ddd11738b8b15079057a74c81d65e38", func := "diapason/diapasonlaw03.EftMild", spec := "eftMild", inPlace := ["math.Float64bits", "math.Float64frombits"], apart := false }
def EftMildSaid : Prop := eftMildRow.holds Try.pinned (OpenSpec.ofChange eftMildSpec)

/-- ITS FALSE NEIGHBOUR: 'it returns false'. Refute it at one input. -/
def eftMildWrong : ChangeSpec := { name := "eftMild", fn := fun _ => fun
  | [d] => { results := [.lit (.bool false)], args := [d] }
  | _ => none }
def EftMildWrongFalsely : Prop := eftMildRow.holds Try.pinned (OpenSpec.ofChange eftMildWrong)

/-- 'diapasonlaw03.EftTops': WHATEVER THE INPUT: true; the input reads as it did. -/
def eftTopsSpec : ChangeSpec := { name := "eftTops", fn := fun _ => fun
  | [d] => { results := [.lit (.bool true)], args := [d] }
  | _ => none }
def eftTopsRow : OpenClaim := { program := "ytknlpggbaahajaa", sum := "b882c64c21bca3d476d9aa6a8ab513009ddd11738b8b15079057a74c81d65e38", func := "diapason/diapasonlaw03.EftTops", spec := "eftTops", inPlace := ["math.Float64frombits", "math.Float64bits"], apart := false }
def EftTopsSaid : Prop := eftTopsRow.holds Try.pinned (OpenSpec.ofChange eftTopsSpec)

/-- ITS FALSE NEIGHBOUR: 'it returns false'. Refute it at one input. -/
def eftTopsWrong : ChangeSpec := { name := "eftTops", fn := fun _ => fun
  | [d] => { results := [.lit (.bool false)], args := [d] }
  | _ => none }
def EftTopsWrongFalsely : Prop := eftTopsRow.holds Try.pinned (OpenSpec.ofChange eftTopsWrong)

/-- 'diapasonlaw03.EftTurned': WHATEVER THE INPUT: true; the input reads as it did. -/
def eftTurnedSpec : ChangeSpec := { name := "eftTurned", fn := fun _ => fun
  | [d1, d2] => { results := [.lit (.bool true)], args := [d1, d2] }
  | _ => none }
def eftTurnedRow : OpenClaim := { program := "ytknlpggbaahajaa", sum := "b882c64c21bca3d476d9aa6a8ab513009ddd11738b8b15079057a74c81d65e38", func := "diapason/diapasonlaw03.EftTurned", spec := "eftTurned", inPlace := ["math.Float64frombits", "math.Float64bits"], apart := false }
def EftTurnedSaid : Prop := eftTurnedRow.holds Try.pinned (OpenSpec.ofChange eftTurnedSpec)

/-- ITS FALSE NEIGHBOUR: 'it returns false'. Refute it at one input. -/
def eftTurnedWrong : ChangeSpec := { name := "eftTurned", fn := fun _ => fun
  | [d1, d2] => { results := [.lit (.bool false)], args := [d1, d2] }
  | _ => none }
def EftTurnedWrongFalsely : Prop := eftTurnedRow.holds Try.pinned (OpenSpec.ofChange eftTurnedWrong)

/- THE SECOND FORM. 'bulk': how many values and letters a reading holds, each counted each time it is reached (what is shared counts as often as it is met; a slice's spare places count too). A statement '..UptoSaid' is the law's where the arguments, and the package variables that the reading takes, are together of bulk at most 1048576: NARROWER than '..Said'. Prove '..Said' where nothing that the law and all that it calls make is longer than what came in: it says more and counts as full. Else prove '..UptoSaid'. A law counts once. -/
mutual
def uptoBulk {H : Type} : DataW H → Nat
  | .lit (.string bytes) => bytes.length + 1
  | .lit _ => 1
  | .nil => 1
  | .ptr d => uptoBulk d + 1
  | .slice elems spare => uptoBulkAll elems + uptoBulkAll spare + 1
  | .agg parts => uptoBulkAll parts + 1
  | .iface _ d => uptoBulk d + 1
  | .map entries => uptoBulkEntries entries + 1
  | .held _ => 1
def uptoBulkAll {H : Type} : List (DataW H) → Nat
  | [] => 0
  | d :: r => uptoBulk d + uptoBulkAll r
def uptoBulkEntries {H : Type} : List (Lit × DataW H) → Nat
  | [] => 0
  | x :: r => uptoBulkEntry x + uptoBulkEntries r
def uptoBulkEntry {H : Type} : Lit × DataW H → Nat
  | (.string bytes, d) => bytes.length + uptoBulk d + 1
  | (_, d) => uptoBulk d + 1
 end
def uptoSmall : (H : Type) → List (DataW H) → Bool := fun _ ds => decide (uptoBulkAll ds ≤ 1048576)
def OpenSpec.upto (s : _root_.Go.ChangeSpec) : _root_.Go.OpenSpec := { _root_.Go.OpenSpec.ofChange s with cond := some uptoSmall }

/-- 'diapasonlaw03.EftSums', WHERE WHAT IT READS IS OF BULK AT MOST 1048576: true; the input reads as it did. -/
def eftSumsUptoRow : OpenClaim := { program := "ytknlpggbaahajaa", sum := "b882c64c21bca3d476d9aa6a8ab513009ddd11738b8b15079057a74c81d65e38", func := "diapason/diapasonlaw03.EftSums", spec := "eftSums", inPlace := ["math.Float64frombits", "math.Float64bits"], apart := false, narrowed := true }
def EftSumsUptoSaid : Prop := eftSumsUptoRow.holds Try.pinned (OpenSpec.upto eftSumsSpec)

/-- 'diapasonlaw03.EftSplits', WHERE WHAT IT READS IS OF BULK AT MOST 1048576: true; the input reads as it did. -/
def eftSplitsUptoRow : OpenClaim := { program := "ytknlpggbaahajaa", sum := "b882c64c21bca3d476d9aa6a8ab513009ddd11738b8b15079057a74c81d65e38", func := "diapason/diapasonlaw03.EftSplits", spec := "eftSplits", inPlace := ["math.Float64frombits", "math.Float64bits"], apart := false, narrowed := true }
def EftSplitsUptoSaid : Prop := eftSplitsUptoRow.holds Try.pinned (OpenSpec.upto eftSplitsSpec)

/-- 'diapasonlaw03.EftProds', WHERE WHAT IT READS IS OF BULK AT MOST 1048576: true; the input reads as it did. -/
def eftProdsUptoRow : OpenClaim := { program := "ytknlpggbaahajaa", sum := "b882c64c21bca3d476d9aa6a8ab513009ddd11738b8b15079057a74c81d65e38", func := "diapason/diapasonlaw03.EftProds", spec := "eftProds", inPlace := ["math.Float64frombits", "math.Float64bits"], apart := false, narrowed := true }
def EftProdsUptoSaid : Prop := eftProdsUptoRow.holds Try.pinned (OpenSpec.upto eftProdsSpec)

/-- 'diapasonlaw03.EftMild', WHERE WHAT IT READS IS OF BULK AT MOST 1048576: true; the input reads as it did. -/
def eftMildUptoRow : OpenClaim := { program := "ytknlpggbaahajaa", sum := "b882c64c21bca3d476d9aa6a8ab513009ddd11738b8b15079057a74c81d65e38", func := "diapason/diapasonlaw03.EftMild", spec := "eftMild", inPlace := ["math.Float64bits", "math.Float64frombits"], apart := false, narrowed := true }
def EftMildUptoSaid : Prop := eftMildUptoRow.holds Try.pinned (OpenSpec.upto eftMildSpec)

/-- 'diapasonlaw03.EftTops', WHERE WHAT IT READS IS OF BULK AT MOST 1048576: true; the input reads as it did. -/
def eftTopsUptoRow : OpenClaim := { program := "ytknlpggbaahajaa", sum := "b882c64c21bca3d476d9aa6a8ab513009ddd11738b8b15079057a74c81d65e38", func := "diapason/diapasonlaw03.EftTops", spec := "eftTops", inPlace := ["math.Float64frombits", "math.Float64bits"], apart := false, narrowed := true }
def EftTopsUptoSaid : Prop := eftTopsUptoRow.holds Try.pinned (OpenSpec.upto eftTopsSpec)

/-- 'diapasonlaw03.EftTurned', WHERE WHAT IT READS IS OF BULK AT MOST 1048576: true; the input reads as it did. -/
def eftTurnedUptoRow : OpenClaim := { program := "ytknlpggbaahajaa", sum := "b882c64c21bca3d476d9aa6a8ab513009ddd11738b8b15079057a74c81d65e38", func := "diapason/diapasonlaw03.EftTurned", spec := "eftTurned", inPlace := ["math.Float64frombits", "math.Float64bits"], apart := false, narrowed := true }
def EftTurnedUptoSaid : Prop := eftTurnedUptoRow.holds Try.pinned (OpenSpec.upto eftTurnedSpec)

end Rows
end Go.Proofs.Ytknlpggbaahajaa
