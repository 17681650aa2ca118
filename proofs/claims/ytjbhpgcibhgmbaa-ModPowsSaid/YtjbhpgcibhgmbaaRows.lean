/-
  No cell of these rows narrows 'for every input' (looked for: loops, veiled, ifaces, maps, wideKeys, modest, calm, conditions, laid).
  DERIVED. THE GIVEN ROWS OF THIS SEAT. 6 by the template 'for every input the law returns true; each argument reads behind the call as it read before'; 0 by the template 'total and deterministic' (their statements: YtjbhpgcibhgmbaaTotals.lean).
  GIVEN WITH THE SEED: the statements are not yours to turn. If you find one false, say at which input.
  Laid BY PROGRAM, IN A SANDBOX (cutbox-rows.mjs): the forced cells as the released guide's own fill.sh prints them over the translation 69612885d7f3d2fc… (all of the seat's roots in one cut). By AI agents, Wed Nov 11 2026. No macro, syntax, notation, axiom, sorry.
-/
import Derived.Test.YtjbhpgcibhgmbaaChecked
import GoSem.Claim
import GoSem.ClaimJoined
import GoSem.ClaimMapViews
import Derived.JoinedTies
import Derived.KernelRfl
namespace Go.Proofs.Ytjbhpgcibhgmbaa
/- THE CELL 'sum', in the pinned program and in every row, IS THE sha256 OF THE DUMP (.gsa) THAT YtjbhpgcibhgmbaaProg.lean LOADS. Nothing in Lean hashes anything: it is a label: what it is worth is what the hold of that sum in a sandbox is worth. -/
noncomputable def Try.pinned : Pinned := { name := "ytjbhpgcibhgmbaa", sum := "69612885d7f3d2fce525ccf4198e246bc1011125543a9f11134966372947a692", checked := Try.checked }
namespace Rows
def none {H : Type} : Left H := { results := [], args := [] }

/-- 'diapasonlaw01.ModGcds': WHATEVER THE INPUT: true; the input reads as it did. -/
def modGcdsSpec : ChangeSpec := { name := "modGcds", fn := fun _ => fun
  | [d1, d2, d3] => { results := [.lit (.bool true)], args := [d1, d2, d3] }
  | _ => none }
def modGcdsRow : OpenClaim := { program := "ytjbhpgcibhgmbaa", sum := "69612885d7f3d2fce525ccf4198e246bc1011125543a9f11134966372947a692", func := "diapason/diapasonlaw01.ModGcds", spec := "modGcds", named := ["math/bits.divideError", "math/bits.overflowError"], apart := false }
def ModGcdsSaid : Prop := modGcdsRow.holds Try.pinned (OpenSpec.ofChange modGcdsSpec)

/-- ITS FALSE NEIGHBOUR: 'it returns false'. Refute it at one input. -/
def modGcdsWrong : ChangeSpec := { name := "modGcds", fn := fun _ => fun
  | [d1, d2, d3] => { results := [.lit (.bool false)], args := [d1, d2, d3] }
  | _ => none }
def ModGcdsWrongFalsely : Prop := modGcdsRow.holds Try.pinned (OpenSpec.ofChange modGcdsWrong)

/-- 'diapasonlaw01.ModMuls': WHATEVER THE INPUT: true; the input reads as it did. -/
def modMulsSpec : ChangeSpec := { name := "modMuls", fn := fun _ => fun
  | [d1, d2, d3] => { results := [.lit (.bool true)], args := [d1, d2, d3] }
  | _ => none }
def modMulsRow : OpenClaim := { program := "ytjbhpgcibhgmbaa", sum := "69612885d7f3d2fce525ccf4198e246bc1011125543a9f11134966372947a692", func := "diapason/diapasonlaw01.ModMuls", spec := "modMuls", named := ["math/bits.divideError", "math/bits.overflowError"], apart := false }
def ModMulsSaid : Prop := modMulsRow.holds Try.pinned (OpenSpec.ofChange modMulsSpec)

/-- ITS FALSE NEIGHBOUR: 'it returns false'. Refute it at one input. -/
def modMulsWrong : ChangeSpec := { name := "modMuls", fn := fun _ => fun
  | [d1, d2, d3] => { results := [.lit (.bool false)], args := [d1, d2, d3] }
  | _ => none }
def ModMulsWrongFalsely : Prop := modMulsRow.holds Try.pinned (OpenSpec.ofChange modMulsWrong)

/-- 'diapasonlaw01.ModPows': WHATEVER THE INPUT: true; the input reads as it did. -/
def modPowsSpec : ChangeSpec := { name := "modPows", fn := fun _ => fun
  | [d1, d2, d3] => { results := [.lit (.bool true)], args := [d1, d2, d3] }
  | _ => none }
def modPowsRow : OpenClaim := { program := "ytjbhpgcibhgmbaa", sum := "69612885d7f3d2fce525ccf4198e246bc1011125543a9f11134966372947a692", func := "diapason/diapasonlaw01.ModPows", spec := "modPows", named := ["math/bits.divideError", "math/bits.overflowError"], apart := false }
def ModPowsSaid : Prop := modPowsRow.holds Try.pinned (OpenSpec.ofChange modPowsSpec)

/-- ITS FALSE NEIGHBOUR: 'it returns false'. Refute it at one input. -/
def modPowsWrong : ChangeSpec := { name := "modPows", fn := fun _ => fun
  | [d1, d2, d3] => { results := [.lit (.bool false)], args := [d1, d2, d3] }
  | _ => none }
def ModPowsWrongFalsely : Prop := modPowsRow.holds Try.pinned (OpenSpec.ofChange modPowsWrong)

/-- 'diapasonlaw01.ModInverses': WHATEVER THE INPUT: true; the input reads as it did. -/
def modInversesSpec : ChangeSpec := { name := "modInverses", fn := fun _ => fun
  | [d1, d2] => { results := [.lit (.bool true)], args := [d1, d2] }
  | _ => none }
def modInversesRow : OpenClaim := { program := "ytjbhpgcibhgmbaa", sum := "69612885d7f3d2fce525ccf4198e246bc1011125543a9f11134966372947a692", func := "diapason/diapasonlaw01.ModInverses", spec := "modInverses", named := ["math/bits.divideError", "math/bits.overflowError"], apart := false }
def ModInversesSaid : Prop := modInversesRow.holds Try.pinned (OpenSpec.ofChange modInversesSpec)

/-- ITS FALSE NEIGHBOUR: 'it returns false'. Refute it at one input. -/
def modInversesWrong : ChangeSpec := { name := "modInverses", fn := fun _ => fun
  | [d1, d2] => { results := [.lit (.bool false)], args := [d1, d2] }
  | _ => none }
def ModInversesWrongFalsely : Prop := modInversesRow.holds Try.pinned (OpenSpec.ofChange modInversesWrong)

/-- 'diapasonlaw01.ModRules': WHATEVER THE INPUT: true; the input reads as it did. -/
def modRulesSpec : ChangeSpec := { name := "modRules", fn := fun _ => fun
  | [d1, d2] => { results := [.lit (.bool true)], args := [d1, d2] }
  | _ => none }
def modRulesRow : OpenClaim := { program := "ytjbhpgcibhgmbaa", sum := "69612885d7f3d2fce525ccf4198e246bc1011125543a9f11134966372947a692", func := "diapason/diapasonlaw01.ModRules", spec := "modRules", named := ["math/bits.divideError", "math/bits.overflowError"], apart := false }
def ModRulesSaid : Prop := modRulesRow.holds Try.pinned (OpenSpec.ofChange modRulesSpec)

/-- ITS FALSE NEIGHBOUR: 'it returns false'. Refute it at one input. -/
def modRulesWrong : ChangeSpec := { name := "modRules", fn := fun _ => fun
  | [d1, d2] => { results := [.lit (.bool false)], args := [d1, d2] }
  | _ => none }
def ModRulesWrongFalsely : Prop := modRulesRow.holds Try.pinned (OpenSpec.ofChange modRulesWrong)

/-- 'diapasonlaw01.ModPowers': WHATEVER THE INPUT: true; the input reads as it did. -/
def modPowersSpec : ChangeSpec := { name := "modPowers", fn := fun _ => fun
  | [d1, d2, d3] => { results := [.lit (.bool true)], args := [d1, d2, d3] }
  | _ => none }
def modPowersRow : OpenClaim := { program := "ytjbhpgcibhgmbaa", sum := "69612885d7f3d2fce525ccf4198e246bc1011125543a9f11134966372947a692", func := "diapason/diapasonlaw01.ModPowers", spec := "modPowers", named := ["math/bits.divideError", "math/bits.overflowError"], apart := false }
def ModPowersSaid : Prop := modPowersRow.holds Try.pinned (OpenSpec.ofChange modPowersSpec)

/-- ITS FALSE NEIGHBOUR: 'it returns false'. Refute it at one input. -/
def modPowersWrong : ChangeSpec := { name := "modPowers", fn := fun _ => fun
  | [d1, d2, d3] => { results := [.lit (.bool false)], args := [d1, d2, d3] }
  | _ => none }
def ModPowersWrongFalsely : Prop := modPowersRow.holds Try.pinned (OpenSpec.ofChange modPowersWrong)

/- THE SECOND FORM. 'bulk': how many values and letters a reading holds, each counted each time it is reached (what is shared counts as often as it is met; a slice's spare places count too). A statement '..UptoSaid' is the law's where the arguments, and the package variables that the reading takes, are together of bulk at most 1048576: NARROWER than '..Said'. Prove '..Said' where nothing that the law and all that it calls make is longer than what came in: it says more and counts as full. Else prove '..UptoSaid'. A law counts once. -/
mutual
def uptoBulk {H : Type} : DataW H → Nat
  | .lit (.string bytes) => bytes.length + 1
  | .lit _ => 1
  | .nil => 1
  | .ptr d => uptoBulk d + 1
  | .slice elems spare => uptoBulkAll elems + uptoBulkAll spare + 1
  | .agg parts => uptoBulkAll parts + 1
  | .iface _ d => uptoBulk d + 1
  | .map entries => uptoBulkEntries entries + 1
  | .held _ => 1
def uptoBulkAll {H : Type} : List (DataW H) → Nat
  | [] => 0
  | d :: r => uptoBulk d + uptoBulkAll r
def uptoBulkEntries {H : Type} : List (Lit × DataW H) → Nat
  | [] => 0
  | x :: r => uptoBulkEntry x + uptoBulkEntries r
def uptoBulkEntry {H : Type} : Lit × DataW H → Nat
  | (.string bytes, d) => bytes.length + uptoBulk d + 1
  | (_, d) => uptoBulk d + 1
 end
def uptoSmall : (H : Type) → List (DataW H) → Bool := fun _ ds => decide (uptoBulkAll ds ≤ 1048576)
def OpenSpec.upto (s : _root_.Go.ChangeSpec) : _root_.Go.OpenSpec := { _root_.Go.OpenSpec.ofChange s with cond := some uptoSmall }

/-- 'diapasonlaw01.ModGcds', WHERE WHAT IT READS IS OF BULK AT MOST 1048576: true; the input reads as it did. -/
def modGcdsUptoRow : OpenClaim := { program := "ytjbhpgcibhgmbaa", sum := "69612885d7f3d2fce525ccf4198e246bc1011125543a9f11134966372947a692", func := "diapason/diapasonlaw01.ModGcds", spec := "modGcds", named := ["math/bits.divideError", "math/bits.overflowError"], apart := false, narrowed := true }
def ModGcdsUptoSaid : Prop := modGcdsUptoRow.holds Try.pinned (OpenSpec.upto modGcdsSpec)

/-- 'diapasonlaw01.ModMuls', WHERE WHAT IT READS IS OF BULK AT MOST 1048576: true; the input reads as it did. -/
def modMulsUptoRow : OpenClaim := { program := "ytjbhpgcibhgmbaa", sum := "69612885d7f3d2fce525ccf4198e246bc1011125543a9f11134966372947a692", func := "diapason/diapasonlaw01.ModMuls", spec := "modMuls", named := ["math/bits.divideError", "math/bits.overflowError"], apart := false, narrowed := true }
def ModMulsUptoSaid : Prop := modMulsUptoRow.holds Try.pinned (OpenSpec.upto modMulsSpec)

/-- 'diapasonlaw01.ModPows', WHERE WHAT IT READS IS OF BULK AT MOST 1048576: true; the input reads as it did. -/
def modPowsUptoRow : OpenClaim := { program := "ytjbhpgcibhgmbaa", sum := "69612885d7f3d2fce525ccf4198e246bc1011125543a9f11134966372947a692", func := "diapason/diapasonlaw01.ModPows", spec := "modPows", named := ["math/bits.divideError", "math/bits.overflowError"], apart := false, narrowed := true }
def ModPowsUptoSaid : Prop := modPowsUptoRow.holds Try.pinned (OpenSpec.upto modPowsSpec)

/-- 'diapasonlaw01.ModInverses', WHERE WHAT IT READS IS OF BULK AT MOST 1048576: true; the input reads as it did. -/
def modInversesUptoRow : OpenClaim := { program := "ytjbhpgcibhgmbaa", sum := "69612885d7f3d2fce525ccf4198e246bc1011125543a9f11134966372947a692", func := "diapason/diapasonlaw01.ModInverses", spec := "modInverses", named := ["math/bits.divideError", "math/bits.overflowError"], apart := false, narrowed := true }
def ModInversesUptoSaid : Prop := modInversesUptoRow.holds Try.pinned (OpenSpec.upto modInversesSpec)

/-- 'diapasonlaw01.ModRules', WHERE WHAT IT READS IS OF BULK AT MOST 1048576: true; the input reads as it did. -/
def modRulesUptoRow : OpenClaim := { program := "ytjbhpgcibhgmbaa", sum := "69612885d7f3d2fce525ccf4198e246bc1011125543a9f11134966372947a692", func := "diapason/diapasonlaw01.ModRules", spec := "modRules", named := ["math/bits.divideError", "math/bits.overflowError"], apart := false, narrowed := true }
def ModRulesUptoSaid : Prop := modRulesUptoRow.holds Try.pinned (OpenSpec.upto modRulesSpec)

/-- 'diapasonlaw01.ModPowers', WHERE WHAT IT READS IS OF BULK AT MOST 1048576: true; the input reads as it did. -/
def modPowersUptoRow : OpenClaim := { program := "ytjbhpgcibhgmbaa", sum := "69612885d7f3d2fce525ccf4198e246bc1011125543a9f11134966372947a692", func := "diapason/diapasonlaw01.ModPowers", spec := "modPowers", named := ["math/bits.divideError", "math/bits.overflowError"], apart := false, narrowed := true }
def ModPowersUptoSaid : Prop := modPowersUptoRow.holds Try.pinned (OpenSpec.upto modPowersSpec)

end Rows
end Go.Proofs.Ytjbhpgcibhgmbaa
