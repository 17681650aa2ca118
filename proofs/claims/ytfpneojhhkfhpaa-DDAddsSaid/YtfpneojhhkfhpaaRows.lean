/-
  No cell of these rows narrows 'for every input' (looked for: loops, veiled, ifaces, maps, wideKeys, modest, calm, conditions, laid).
  DERIVED. THE GIVEN ROWS OF THIS SEAT. 5 by the template 'for every input the law returns true; each argument reads behind the call as it read before'; 0 by the template 'total and deterministic' (their statements: YtfpneojhhkfhpaaTotals.lean).
  GIVEN WITH THE SEED: the statements are not yours to turn. If you find one false, say at which input.
  Laid BY PROGRAM, IN A SANDBOX (cutbox-rows.mjs): the forced cells as the released guide's own fill.sh prints them over the translation dfab8135c18afa9b… (all of the seat's roots in one cut). By AI agents, Wed Nov 11 2026. No macro, syntax, notation, axiom, sorry.
-/
import Derived.Test.YtfpneojhhkfhpaaChecked
import GoSem.Claim
import GoSem.ClaimJoined
import GoSem.ClaimMapViews
import Derived.JoinedTies
import Derived.KernelRfl
namespace Go.Proofs.Ytfpneojhhkfhpaa
/- THE CELL 'sum', in the pinned program and in every row, IS THE sha256 OF THE DUMP (.gsa) THAT YtfpneojhhkfhpaaProg.lean LOADS. Nothing in Lean hashes anything: it is a label: what it is worth is what the hold of that sum in a sandbox is worth. -/
noncomputable def Try.pinned : Pinned := { name := "ytfpneojhhkfhpaa", sum := "dfab8135c18afa9bc3d25ae0d9aaf8d2883eafb12362eac05ee5c24ba19120d6", checked := Try.checked }
namespace Rows
def none {H : Type} : Left H := { results := [], args := [] }

/-- 'diapasonlaw04.DDMakes': WHATEVER THE INPUT: true; the input reads as it did. -/
def dDMakesSpec : ChangeSpec := { name := "dDMakes", fn := fun _ => fun
  | [d1, d2] => { results := [.lit (.bool true)], args := [d1, d2] }
  | _ => none }
def dDMakesRow : OpenClaim := { program := "ytfpneojhhkfhpaa", sum := "dfab8135c18afa9bc3d25ae0d9aaf8d2883eafb12362eac05ee5c24ba19120d6", func := "diapason/diapasonlaw04.DDMakes", spec := "dDMakes", inPlace := ["math.Float64frombits", "math.Float64bits"], apart := false }
def DDMakesSaid : Prop := dDMakesRow.holds Try.pinned (OpenSpec.ofChange dDMakesSpec)

/-- ITS FALSE NEIGHBOUR: 'it returns false'. Refute it at one input. -/
def dDMakesWrong : ChangeSpec := { name := "dDMakes", fn := fun _ => fun
  | [d1, d2] => { results := [.lit (.bool false)], args := [d1, d2] }
  | _ => none }
def DDMakesWrongFalsely : Prop := dDMakesRow.holds Try.pinned (OpenSpec.ofChange dDMakesWrong)

/-- 'diapasonlaw04.DDAdds': WHATEVER THE INPUT: true; the input reads as it did. -/
def dDAddsSpec : ChangeSpec := { name := "dDAdds", fn := fun _ => fun
  | [d1, d2] => { results := [.lit (.bool true)], args := [d1, d2] }
  | _ => none }
def dDAddsRow : OpenClaim := { program := "ytfpneojhhkfhpaa", sum := "dfab8135c18afa9bc3d25ae0d9aaf8d2883eafb12362eac05ee5c24ba19120d6", func := "diapason/diapasonlaw04.DDAdds", spec := "dDAdds", inPlace := ["math.Float64frombits", "math.Float64bits"], apart := false }
def DDAddsSaid : Prop := dDAddsRow.holds Try.pinned (OpenSpec.ofChange dDAddsSpec)

/-- ITS FALSE NEIGHBOUR: 'it returns false'. Refute it at one input. -/
def dDAddsWrong : ChangeSpec := { name := "dDAdds", fn := fun _ => fun
  | [d1, d2] => { results := [.lit (.bool false)], args := [d1, d2] }
  | _ => none }
def DDAddsWrongFalsely : Prop := dDAddsRow.holds Try.pinned (OpenSpec.ofChange dDAddsWrong)

/-- 'diapasonlaw04.DDMuls': WHATEVER THE INPUT: true; the input reads as it did. -/
def dDMulsSpec : ChangeSpec := { name := "dDMuls", fn := fun _ => fun
  | [d1, d2] => { results := [.lit (.bool true)], args := [d1, d2] }
  | _ => none }
def dDMulsRow : OpenClaim := { program := "ytfpneojhhkfhpaa", sum := "dfab8135c18afa9bc3d25ae0d9aaf8d2883eafb12362eac05ee5c24ba19120d6", func := "diapason/diapasonlaw04.DDMuls", spec := "dDMuls", inPlace := ["math.Float64frombits", "math.Float64bits"], apart := false }
def DDMulsSaid : Prop := dDMulsRow.holds Try.pinned (OpenSpec.ofChange dDMulsSpec)

/-- ITS FALSE NEIGHBOUR: 'it returns false'. Refute it at one input. -/
def dDMulsWrong : ChangeSpec := { name := "dDMuls", fn := fun _ => fun
  | [d1, d2] => { results := [.lit (.bool false)], args := [d1, d2] }
  | _ => none }
def DDMulsWrongFalsely : Prop := dDMulsRow.holds Try.pinned (OpenSpec.ofChange dDMulsWrong)

/-- 'diapasonlaw04.DDQuos': WHATEVER THE INPUT: true; the input reads as it did. -/
def dDQuosSpec : ChangeSpec := { name := "dDQuos", fn := fun _ => fun
  | [d1, d2] => { results := [.lit (.bool true)], args := [d1, d2] }
  | _ => none }
def dDQuosRow : OpenClaim := { program := "ytfpneojhhkfhpaa", sum := "dfab8135c18afa9bc3d25ae0d9aaf8d2883eafb12362eac05ee5c24ba19120d6", func := "diapason/diapasonlaw04.DDQuos", spec := "dDQuos", inPlace := ["math.Float64frombits", "math.Float64bits"], apart := false }
def DDQuosSaid : Prop := dDQuosRow.holds Try.pinned (OpenSpec.ofChange dDQuosSpec)

/-- ITS FALSE NEIGHBOUR: 'it returns false'. Refute it at one input. -/
def dDQuosWrong : ChangeSpec := { name := "dDQuos", fn := fun _ => fun
  | [d1, d2] => { results := [.lit (.bool false)], args := [d1, d2] }
  | _ => none }
def DDQuosWrongFalsely : Prop := dDQuosRow.holds Try.pinned (OpenSpec.ofChange dDQuosWrong)

/-- 'diapasonlaw04.DDFloats': WHATEVER THE INPUT: true; the input reads as it did. -/
def dDFloatsSpec : ChangeSpec := { name := "dDFloats", fn := fun _ => fun
  | [d] => { results := [.lit (.bool true)], args := [d] }
  | _ => none }
def dDFloatsRow : OpenClaim := { program := "ytfpneojhhkfhpaa", sum := "dfab8135c18afa9bc3d25ae0d9aaf8d2883eafb12362eac05ee5c24ba19120d6", func := "diapason/diapasonlaw04.DDFloats", spec := "dDFloats", inPlace := ["math.Float64frombits", "math.Float64bits"], apart := false }
def DDFloatsSaid : Prop := dDFloatsRow.holds Try.pinned (OpenSpec.ofChange dDFloatsSpec)

/-- ITS FALSE NEIGHBOUR: 'it returns false'. Refute it at one input. -/
def dDFloatsWrong : ChangeSpec := { name := "dDFloats", fn := fun _ => fun
  | [d] => { results := [.lit (.bool false)], args := [d] }
  | _ => none }
def DDFloatsWrongFalsely : Prop := dDFloatsRow.holds Try.pinned (OpenSpec.ofChange dDFloatsWrong)

/- THE SECOND FORM. 'bulk': how many values and letters a reading holds, each counted each time it is reached (what is shared counts as often as it is met; a slice's spare places count too). A statement '..UptoSaid' is the law's where the arguments, and the package variables that the reading takes, are together of bulk at most 1048576: NARROWER than '..Said'. Prove '..Said' where nothing that the law and all that it calls make is longer than what came in: it says more and counts as full. Else prove '..UptoSaid'. A law counts once. -/
mutual
def uptoBulk {H : Type} : DataW H → Nat
  | .lit (.string bytes) => bytes.length + 1
  | .lit _ => 1
  | .nil => 1
  | .ptr d => uptoBulk d + 1
  | .slice elems spare => uptoBulkAll elems + uptoBulkAll spare + 1
  | .agg parts => uptoBulkAll parts + 1
  | .iface _ d => uptoBulk d + 1
  | .map entries => uptoBulkEntries entries + 1
  | .held _ => 1
def uptoBulkAll {H : Type} : List (DataW H) → Nat
  | [] => 0
  | d :: r => uptoBulk d + uptoBulkAll r
def uptoBulkEntries {H : Type} : List (Lit × DataW H) → Nat
  | [] => 0
  | x :: r => uptoBulkEntry x + uptoBulkEntries r
def uptoBulkEntry {H : Type} : Lit × DataW H → Nat
  | (.string bytes, d) => bytes.length + uptoBulk d + 1
  | (_, d) => uptoBulk d + 1
 end
def uptoSmall : (H : Type) → List (DataW H) → Bool := fun _ ds => decide (uptoBulkAll ds ≤ 1048576)
def OpenSpec.upto (s : _root_.Go.ChangeSpec) : _root_.Go.OpenSpec := { _root_.Go.OpenSpec.ofChange s with cond := some uptoSmall }

/-- 'diapasonlaw04.DDMakes', WHERE WHAT IT READS IS OF BULK AT MOST 1048576: true; the input reads as it did. -/
def dDMakesUptoRow : OpenClaim := { program := "ytfpneojhhkfhpaa", sum := "dfab8135c18afa9bc3d25ae0d9aaf8d2883eafb12362eac05ee5c24ba19120d6", func := "diapason/diapasonlaw04.DDMakes", spec := "dDMakes", inPlace := ["math.Float64frombits", "math.Float64bits"], apart := false, narrowed := true }
def DDMakesUptoSaid : Prop := dDMakesUptoRow.holds Try.pinned (OpenSpec.upto dDMakesSpec)

/-- 'diapasonlaw04.DDAdds', WHERE WHAT IT READS IS OF BULK AT MOST 1048576: true; the input reads as it did. -/
def dDAddsUptoRow : OpenClaim := { program := "ytfpneojhhkfhpaa", sum := "dfab8135c18afa9bc3d25ae0d9aaf8d2883eafb12362eac05ee5c24ba19120d6", func := "diapason/diapasonlaw04.DDAdds", spec := "dDAdds", inPlace := ["math.Float64frombits", "math.Float64bits"], apart := false, narrowed := true }
def DDAddsUptoSaid : Prop := dDAddsUptoRow.holds Try.pinned (OpenSpec.upto dDAddsSpec)

/-- 'diapasonlaw04.DDMuls', WHERE WHAT IT READS IS OF BULK AT MOST 1048576: true; the input reads as it did. -/
def dDMulsUptoRow : OpenClaim := { program := "ytfpneojhhkfhpaa", sum := "dfab8135c18afa9bc3d25ae0d9aaf8d2883eafb12362eac05ee5c24ba19120d6", func := "diapason/diapasonlaw04.DDMuls", spec := "dDMuls", inPlace := ["math.Float64frombits", "math.Float64bits"], apart := false, narrowed := true }
def DDMulsUptoSaid : Prop := dDMulsUptoRow.holds Try.pinned (OpenSpec.upto dDMulsSpec)

/-- 'diapasonlaw04.DDQuos', WHERE WHAT IT READS IS OF BULK AT MOST 1048576: true; the input reads as it did. -/
def dDQuosUptoRow : OpenClaim := { program := "ytfpneojhhkfhpaa", sum := "dfab8135c18afa9bc3d25ae0d9aaf8d2883eafb12362eac05ee5c24ba19120d6", func := "diapason/diapasonlaw04.DDQuos", spec := "dDQuos", inPlace := ["math.Float64frombits", "math.Float64bits"], apart := false, narrowed := true }
def DDQuosUptoSaid : Prop := dDQuosUptoRow.holds Try.pinned (OpenSpec.upto dDQuosSpec)

/-- 'diapasonlaw04.DDFloats', WHERE WHAT IT READS IS OF BULK AT MOST 1048576: true; the input reads as it did. -/
def dDFloatsUptoRow : OpenClaim := { program := "ytfpneojhhkfhpaa", sum := "dfab8135c18afa9bc3d25ae0d9aaf8d2883eafb12362eac05ee5c24ba19120d6", func := "diapason/diapasonlaw04.DDFloats", spec := "dDFloats", inPlace := ["math.Float64frombits", "math.Float64bits"], apart := false, narrowed := true }
def DDFloatsUptoSaid : Prop := dDFloatsUptoRow.holds Try.pinned (OpenSpec.upto dDFloatsSpec)

end Rows
end Go.Proofs.Ytfpneojhhkfhpaa
