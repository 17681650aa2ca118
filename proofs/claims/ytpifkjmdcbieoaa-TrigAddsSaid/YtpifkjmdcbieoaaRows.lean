/-
  No cell of these rows narrows 'for every input' (looked for: loops, veiled, ifaces, maps, wideKeys, modest, calm, conditions, laid).
  DERIVED. THE GIVEN ROWS OF THIS SEAT. 6 by the template 'for every input the law returns true; each argument reads behind the call as it read before'; 0 by the template 'total and deterministic' (their statements: YtpifkjmdcbieoaaTotals.lean).
  GIVEN WITH THE SEED: the statements are not yours to turn. If you find one false, say at which input.
  Laid BY PROGRAM, IN A SANDBOX (cutbox-rows.mjs): the forced cells as the released guide's own fill.sh prints them over the translation a7b13511cd1626a4… (all of the seat's roots in one cut). By AI agents, Wed Nov 11 2026. No macro, syntax, notation, axiom, sorry.
-/
import Derived.Test.YtpifkjmdcbieoaaChecked
import GoSem.Claim
import GoSem.ClaimJoined
import GoSem.ClaimMapViews
import Derived.JoinedTies
import Derived.KernelRfl
namespace Go.Proofs.Ytpifkjmdcbieoaa
/- THE CELL 'sum', in the pinned program and in every row, IS THE sha256 OF THE DUMP (.gsa) THAT YtpifkjmdcbieoaaProg.lean LOADS. Nothing in Lean hashes anything: it is a label: what it is worth is what the hold of that sum in a sandbox is worth. -/
noncomputable def Try.pinned : Pinned := { name := "ytpifkjmdcbieoaa", sum := "a7b13511cd1626a4331f33c84a1e863ed3c2ab971863bd20e1ce80178a88a8a0", checked := Try.checked }
namespace Rows
def none {H : Type} : Left H := { results := [], args := [] }

/-- 'diapasonlaw05.TrigOctants': WHATEVER THE INPUT: true; the input reads as it did. -/
def trigOctantsSpec : ChangeSpec := { name := "trigOctants", fn := fun _ => fun
  | [d1, d2] => { results := [.lit (.bool true)], args := [d1, d2] }
  | _ => none }
def trigOctantsRow : OpenClaim := { program := "ytpifkjmdcbieoaa", sum := "a7b13511cd1626a4331f33c84a1e863ed3c2ab971863bd20e1ce80178a88a8a0", func := "diapason/diapasonlaw05.TrigOctants", spec := "trigOctants", inPlace := ["math.Float64bits", "math.Float64frombits"], apart := false }
def TrigOctantsSaid : Prop := trigOctantsRow.holds Try.pinned (OpenSpec.ofChange trigOctantsSpec)

/-- ITS FALSE NEIGHBOUR: 'it returns false'. Refute it at one input. -/
def trigOctantsWrong : ChangeSpec := { name := "trigOctants", fn := fun _ => fun
  | [d1, d2] => { results := [.lit (.bool false)], args := [d1, d2] }
  | _ => none }
def TrigOctantsWrongFalsely : Prop := trigOctantsRow.holds Try.pinned (OpenSpec.ofChange trigOctantsWrong)

/-- 'diapasonlaw05.TrigExact': WHATEVER THE INPUT: true; the input reads as it did. -/
def trigExactSpec : ChangeSpec := { name := "trigExact", fn := fun _ => fun
  | [d1, d2] => { results := [.lit (.bool true)], args := [d1, d2] }
  | _ => none }
def trigExactRow : OpenClaim := { program := "ytpifkjmdcbieoaa", sum := "a7b13511cd1626a4331f33c84a1e863ed3c2ab971863bd20e1ce80178a88a8a0", func := "diapason/diapasonlaw05.TrigExact", spec := "trigExact", inPlace := ["math.Float64bits", "math.Float64frombits"], apart := false }
def TrigExactSaid : Prop := trigExactRow.holds Try.pinned (OpenSpec.ofChange trigExactSpec)

/-- ITS FALSE NEIGHBOUR: 'it returns false'. Refute it at one input. -/
def trigExactWrong : ChangeSpec := { name := "trigExact", fn := fun _ => fun
  | [d1, d2] => { results := [.lit (.bool false)], args := [d1, d2] }
  | _ => none }
def TrigExactWrongFalsely : Prop := trigExactRow.holds Try.pinned (OpenSpec.ofChange trigExactWrong)

/-- 'diapasonlaw05.TrigTurns': WHATEVER THE INPUT: true; the input reads as it did. -/
def trigTurnsSpec : ChangeSpec := { name := "trigTurns", fn := fun _ => fun
  | [d1, d2] => { results := [.lit (.bool true)], args := [d1, d2] }
  | _ => none }
def trigTurnsRow : OpenClaim := { program := "ytpifkjmdcbieoaa", sum := "a7b13511cd1626a4331f33c84a1e863ed3c2ab971863bd20e1ce80178a88a8a0", func := "diapason/diapasonlaw05.TrigTurns", spec := "trigTurns", inPlace := ["math.Float64bits", "math.Float64frombits"], apart := false }
def TrigTurnsSaid : Prop := trigTurnsRow.holds Try.pinned (OpenSpec.ofChange trigTurnsSpec)

/-- ITS FALSE NEIGHBOUR: 'it returns false'. Refute it at one input. -/
def trigTurnsWrong : ChangeSpec := { name := "trigTurns", fn := fun _ => fun
  | [d1, d2] => { results := [.lit (.bool false)], args := [d1, d2] }
  | _ => none }
def TrigTurnsWrongFalsely : Prop := trigTurnsRow.holds Try.pinned (OpenSpec.ofChange trigTurnsWrong)

/-- 'diapasonlaw05.TrigTurned': WHATEVER THE INPUT: true; the input reads as it did. -/
def trigTurnedSpec : ChangeSpec := { name := "trigTurned", fn := fun _ => fun
  | [d1, d2] => { results := [.lit (.bool true)], args := [d1, d2] }
  | _ => none }
def trigTurnedRow : OpenClaim := { program := "ytpifkjmdcbieoaa", sum := "a7b13511cd1626a4331f33c84a1e863ed3c2ab971863bd20e1ce80178a88a8a0", func := "diapason/diapasonlaw05.TrigTurned", spec := "trigTurned", inPlace := ["math.Float64bits", "math.Float64frombits"], apart := false }
def TrigTurnedSaid : Prop := trigTurnedRow.holds Try.pinned (OpenSpec.ofChange trigTurnedSpec)

/-- ITS FALSE NEIGHBOUR: 'it returns false'. Refute it at one input. -/
def trigTurnedWrong : ChangeSpec := { name := "trigTurned", fn := fun _ => fun
  | [d1, d2] => { results := [.lit (.bool false)], args := [d1, d2] }
  | _ => none }
def TrigTurnedWrongFalsely : Prop := trigTurnedRow.holds Try.pinned (OpenSpec.ofChange trigTurnedWrong)

/-- 'diapasonlaw05.TrigCircle': WHATEVER THE INPUT: true; the input reads as it did. -/
def trigCircleSpec : ChangeSpec := { name := "trigCircle", fn := fun _ => fun
  | [d1, d2] => { results := [.lit (.bool true)], args := [d1, d2] }
  | _ => none }
def trigCircleRow : OpenClaim := { program := "ytpifkjmdcbieoaa", sum := "a7b13511cd1626a4331f33c84a1e863ed3c2ab971863bd20e1ce80178a88a8a0", func := "diapason/diapasonlaw05.TrigCircle", spec := "trigCircle", inPlace := ["math.Float64bits", "math.Float64frombits"], apart := false }
def TrigCircleSaid : Prop := trigCircleRow.holds Try.pinned (OpenSpec.ofChange trigCircleSpec)

/-- ITS FALSE NEIGHBOUR: 'it returns false'. Refute it at one input. -/
def trigCircleWrong : ChangeSpec := { name := "trigCircle", fn := fun _ => fun
  | [d1, d2] => { results := [.lit (.bool false)], args := [d1, d2] }
  | _ => none }
def TrigCircleWrongFalsely : Prop := trigCircleRow.holds Try.pinned (OpenSpec.ofChange trigCircleWrong)

/-- 'diapasonlaw05.TrigAdds': WHATEVER THE INPUT: true; the input reads as it did. -/
def trigAddsSpec : ChangeSpec := { name := "trigAdds", fn := fun _ => fun
  | [d1, d2, d3] => { results := [.lit (.bool true)], args := [d1, d2, d3] }
  | _ => none }
def trigAddsRow : OpenClaim := { program := "ytpifkjmdcbieoaa", sum := "a7b13511cd1626a4331f33c84a1e863ed3c2ab971863bd20e1ce80178a88a8a0", func := "diapason/diapasonlaw05.TrigAdds", spec := "trigAdds", inPlace := ["math.Float64bits", "math.Float64frombits"], apart := false }
def TrigAddsSaid : Prop := trigAddsRow.holds Try.pinned (OpenSpec.ofChange trigAddsSpec)

/-- ITS FALSE NEIGHBOUR: 'it returns false'. Refute it at one input. -/
def trigAddsWrong : ChangeSpec := { name := "trigAdds", fn := fun _ => fun
  | [d1, d2, d3] => { results := [.lit (.bool false)], args := [d1, d2, d3] }
  | _ => none }
def TrigAddsWrongFalsely : Prop := trigAddsRow.holds Try.pinned (OpenSpec.ofChange trigAddsWrong)

/- THE SECOND FORM. 'bulk': how many values and letters a reading holds, each counted each time it is reached (what is shared counts as often as it is met; a slice's spare places count too). A statement '..UptoSaid' is the law's where the arguments, and the package variables that the reading takes, are together of bulk at most 1048576: NARROWER than '..Said'. Prove '..Said' where nothing that the law and all that it calls make is longer than what came in: it says more and counts as full. Else prove '..UptoSaid'. A law counts once. -/
mutual
def uptoBulk {H : Type} : DataW H → Nat
  | .lit (.string bytes) => bytes.length + 1
  | .lit _ => 1
  | .nil => 1
  | .ptr d => uptoBulk d + 1
  | .slice elems spare => uptoBulkAll elems + uptoBulkAll spare + 1
  | .agg parts => uptoBulkAll parts + 1
  | .iface _ d => uptoBulk d + 1
  | .map entries => uptoBulkEntries entries + 1
  | .held _ => 1
def uptoBulkAll {H : Type} : List (DataW H) → Nat
  | [] => 0
  | d :: r => uptoBulk d + uptoBulkAll r
def uptoBulkEntries {H : Type} : List (Lit × DataW H) → Nat
  | [] => 0
  | x :: r => uptoBulkEntry x + uptoBulkEntries r
def uptoBulkEntry {H : Type} : Lit × DataW H → Nat
  | (.string bytes, d) => bytes.length + uptoBulk d + 1
  | (_, d) => uptoBulk d + 1
 end
def uptoSmall : (H : Type) → List (DataW H) → Bool := fun _ ds => decide (uptoBulkAll ds ≤ 1048576)
def OpenSpec.upto (s : _root_.Go.ChangeSpec) : _root_.Go.OpenSpec := { _root_.Go.OpenSpec.ofChange s with cond := some uptoSmall }

/-- 'diapasonlaw05.TrigOctants', WHERE WHAT IT READS IS OF BULK AT MOST 1048576: true; the input reads as it did. -/
def trigOctantsUptoRow : OpenClaim := { program := "ytpifkjmdcbieoaa", sum := "a7b13511cd1626a4331f33c84a1e863ed3c2ab971863bd20e1ce80178a88a8a0", func := "diapason/diapasonlaw05.TrigOctants", spec := "trigOctants", inPlace := ["math.Float64bits", "math.Float64frombits"], apart := false, narrowed := true }
def TrigOctantsUptoSaid : Prop := trigOctantsUptoRow.holds Try.pinned (OpenSpec.upto trigOctantsSpec)

/-- 'diapasonlaw05.TrigExact', WHERE WHAT IT READS IS OF BULK AT MOST 1048576: true; the input reads as it did. -/
def trigExactUptoRow : OpenClaim := { program := "ytpifkjmdcbieoaa", sum := "a7b13511cd1626a4331f33c84a1e863ed3c2ab971863bd20e1ce80178a88a8a0", func := "diapason/diapasonlaw05.TrigExact", spec := "trigExact", inPlace := ["math.Float64bits", "math.Float64frombits"], apart := false, narrowed := true }
def TrigExactUptoSaid : Prop := trigExactUptoRow.holds Try.pinned (OpenSpec.upto trigExactSpec)

/-- 'diapasonlaw05.TrigTurns', WHERE WHAT IT READS IS OF BULK AT MOST 1048576: true; the input reads as it did. -/
def trigTurnsUptoRow : OpenClaim := { program := "ytpifkjmdcbieoaa", sum := "a7b13511cd1626a4331f33c84a1e863ed3c2ab971863bd20e1ce80178a88a8a0", func := "diapason/diapasonlaw05.TrigTurns", spec := "trigTurns", inPlace := ["math.Float64bits", "math.Float64frombits"], apart := false, narrowed := true }
def TrigTurnsUptoSaid : Prop := trigTurnsUptoRow.holds Try.pinned (OpenSpec.upto trigTurnsSpec)

/-- 'diapasonlaw05.TrigTurned', WHERE WHAT IT READS IS OF BULK AT MOST 1048576: true; the input reads as it did. -/
def trigTurnedUptoRow : OpenClaim := { program := "ytpifkjmdcbieoaa", sum := "a7b13511cd1626a4331f33c84a1e863ed3c2ab971863bd20e1ce80178a88a8a0", func := "diapason/diapasonlaw05.TrigTurned", spec := "trigTurned", inPlace := ["math.Float64bits", "math.Float64frombits"], apart := false, narrowed := true }
def TrigTurnedUptoSaid : Prop := trigTurnedUptoRow.holds Try.pinned (OpenSpec.upto trigTurnedSpec)

/-- 'diapasonlaw05.TrigCircle', WHERE WHAT IT READS IS OF BULK AT MOST 1048576: true; the input reads as it did. -/
def trigCircleUptoRow : OpenClaim := { program := "ytpifkjmdcbieoaa", sum := "a7b13511cd1626a4331f33c84a1e863ed3c2ab971863bd20e1ce80178a88a8a0", func := "diapason/diapasonlaw05.TrigCircle", spec := "trigCircle", inPlace := ["math.Float64bits", "math.Float64frombits"], apart := false, narrowed := true }
def TrigCircleUptoSaid : Prop := trigCircleUptoRow.holds Try.pinned (OpenSpec.upto trigCircleSpec)

/-- 'diapasonlaw05.TrigAdds', WHERE WHAT IT READS IS OF BULK AT MOST 1048576: true; the input reads as it did. -/
def trigAddsUptoRow : OpenClaim := { program := "ytpifkjmdcbieoaa", sum := "a7b13511cd1626a4331f33c84a1e863ed3c2ab971863bd20e1ce80178a88a8a0", func := "diapason/diapasonlaw05.TrigAdds", spec := "trigAdds", inPlace := ["math.Float64bits", "math.Float64frombits"], apart := false, narrowed := true }
def TrigAddsUptoSaid : Prop := trigAddsUptoRow.holds Try.pinned (OpenSpec.upto trigAddsSpec)

end Rows
end Go.Proofs.Ytpifkjmdcbieoaa
