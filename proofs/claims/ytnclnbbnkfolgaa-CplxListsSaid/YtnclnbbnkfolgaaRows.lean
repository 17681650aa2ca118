/-
  No cell of these rows narrows 'for every input' (looked for: loops, veiled, ifaces, maps, wideKeys, modest, calm, conditions, laid).
  DERIVED. THE GIVEN ROWS OF THIS SEAT. 6 by the template 'for every input the law returns true; each argument reads behind the call as it read before'; 0 by the template 'total and deterministic' (their statements: YtnclnbbnkfolgaaTotals.lean).
  GIVEN WITH THE SEED: the statements are not yours to turn. If you find one false, say at which input.
  Laid BY PROGRAM, IN A SANDBOX (cutbox-rows.mjs): the forced cells as the released guide's own fill.sh prints them over the translation 22c6c9ddc7e61cbb… (all of the seat's roots in one cut). By AI agents, Wed Nov 11 2026. No macro, syntax, notation, axiom, sorry.
-/
import Derived.Test.YtnclnbbnkfolgaaChecked
import GoSem.Claim
import GoSem.ClaimJoined
import GoSem.ClaimMapViews
import Derived.JoinedTies
import Derived.KernelRfl
namespace Go.Proofs.Ytnclnbbnkfolgaa
/- THE CELL 'sum', in the pinned program and in every row, IS THE sha256 OF THE DUMP (.gsa) THAT YtnclnbbnkfolgaaProg.lean LOADS. Nothing in Lean hashes anything: it is a label: what it is worth is what the hold of that sum in a sandbox is worth. -/
noncomputable def Try.pinned : Pinned := { name := "ytnclnbbnkfolgaa", sum := "22c6c9ddc7e61cbb7ff24d40854babc30068f47b3edd877f598eaf77ffa16c4f", checked := Try.checked }
namespace Rows
def none {H : Type} : Left H := { results := [], args := [] }

/-- 'diapasonlaw06.CplxSums': WHATEVER THE INPUT: true; the input reads as it did. -/
def cplxSumsSpec : ChangeSpec := { name := "cplxSums", fn := fun _ => fun
  | [d1, d2] => { results := [.lit (.bool true)], args := [d1, d2] }
  | _ => none }
def cplxSumsRow : OpenClaim := { program := "ytnclnbbnkfolgaa", sum := "22c6c9ddc7e61cbb7ff24d40854babc30068f47b3edd877f598eaf77ffa16c4f", func := "diapason/diapasonlaw06.CplxSums", spec := "cplxSums", inPlace := ["math.Float64frombits", "math.Float64bits"], unfollowed := true, recurses := true, apart := false }
def CplxSumsSaid : Prop := cplxSumsRow.holds Try.pinned (OpenSpec.ofChange cplxSumsSpec)

/-- ITS FALSE NEIGHBOUR: 'it returns false'. Refute it at one input. -/
def cplxSumsWrong : ChangeSpec := { name := "cplxSums", fn := fun _ => fun
  | [d1, d2] => { results := [.lit (.bool false)], args := [d1, d2] }
  | _ => none }
def CplxSumsWrongFalsely : Prop := cplxSumsRow.holds Try.pinned (OpenSpec.ofChange cplxSumsWrong)

/-- 'diapasonlaw06.CplxMuls': WHATEVER THE INPUT: true; the input reads as it did. -/
def cplxMulsSpec : ChangeSpec := { name := "cplxMuls", fn := fun _ => fun
  | [d1, d2] => { results := [.lit (.bool true)], args := [d1, d2] }
  | _ => none }
def cplxMulsRow : OpenClaim := { program := "ytnclnbbnkfolgaa", sum := "22c6c9ddc7e61cbb7ff24d40854babc30068f47b3edd877f598eaf77ffa16c4f", func := "diapason/diapasonlaw06.CplxMuls", spec := "cplxMuls", inPlace := ["math.Float64frombits", "math.Float64bits"], unfollowed := true, recurses := true, apart := false }
def CplxMulsSaid : Prop := cplxMulsRow.holds Try.pinned (OpenSpec.ofChange cplxMulsSpec)

/-- ITS FALSE NEIGHBOUR: 'it returns false'. Refute it at one input. -/
def cplxMulsWrong : ChangeSpec := { name := "cplxMuls", fn := fun _ => fun
  | [d1, d2] => { results := [.lit (.bool false)], args := [d1, d2] }
  | _ => none }
def CplxMulsWrongFalsely : Prop := cplxMulsRow.holds Try.pinned (OpenSpec.ofChange cplxMulsWrong)

/-- 'diapasonlaw06.CplxTurns': WHATEVER THE INPUT: true; the input reads as it did. -/
def cplxTurnsSpec : ChangeSpec := { name := "cplxTurns", fn := fun _ => fun
  | [d1, d2, d3] => { results := [.lit (.bool true)], args := [d1, d2, d3] }
  | _ => none }
def cplxTurnsRow : OpenClaim := { program := "ytnclnbbnkfolgaa", sum := "22c6c9ddc7e61cbb7ff24d40854babc30068f47b3edd877f598eaf77ffa16c4f", func := "diapason/diapasonlaw06.CplxTurns", spec := "cplxTurns", inPlace := ["math.Float64frombits", "math.Float64bits"], unfollowed := true, recurses := true, apart := false }
def CplxTurnsSaid : Prop := cplxTurnsRow.holds Try.pinned (OpenSpec.ofChange cplxTurnsSpec)

/-- ITS FALSE NEIGHBOUR: 'it returns false'. Refute it at one input. -/
def cplxTurnsWrong : ChangeSpec := { name := "cplxTurns", fn := fun _ => fun
  | [d1, d2, d3] => { results := [.lit (.bool false)], args := [d1, d2, d3] }
  | _ => none }
def CplxTurnsWrongFalsely : Prop := cplxTurnsRow.holds Try.pinned (OpenSpec.ofChange cplxTurnsWrong)

/-- 'diapasonlaw06.CplxGuards': WHATEVER THE INPUT: true; the input reads as it did. -/
def cplxGuardsSpec : ChangeSpec := { name := "cplxGuards", fn := fun _ => fun
  | [d] => { results := [.lit (.bool true)], args := [d] }
  | _ => none }
def cplxGuardsRow : OpenClaim := { program := "ytnclnbbnkfolgaa", sum := "22c6c9ddc7e61cbb7ff24d40854babc30068f47b3edd877f598eaf77ffa16c4f", func := "diapason/diapasonlaw06.CplxGuards", spec := "cplxGuards", inPlace := ["math.Float64frombits", "math.Float64bits"], unfollowed := true, recurses := true, apart := false }
def CplxGuardsSaid : Prop := cplxGuardsRow.holds Try.pinned (OpenSpec.ofChange cplxGuardsSpec)

/-- ITS FALSE NEIGHBOUR: 'it returns false'. Refute it at one input. -/
def cplxGuardsWrong : ChangeSpec := { name := "cplxGuards", fn := fun _ => fun
  | [d] => { results := [.lit (.bool false)], args := [d] }
  | _ => none }
def CplxGuardsWrongFalsely : Prop := cplxGuardsRow.holds Try.pinned (OpenSpec.ofChange cplxGuardsWrong)

/-- 'diapasonlaw06.CplxLists': WHATEVER THE INPUT: true; the input reads as it did. -/
def cplxListsSpec : ChangeSpec := { name := "cplxLists", fn := fun _ => fun
  | [d1, d2] => { results := [.lit (.bool true)], args := [d1, d2] }
  | _ => none }
def cplxListsRow : OpenClaim := { program := "ytnclnbbnkfolgaa", sum := "22c6c9ddc7e61cbb7ff24d40854babc30068f47b3edd877f598eaf77ffa16c4f", func := "diapason/diapasonlaw06.CplxLists", spec := "cplxLists", inPlace := ["math.Float64frombits", "math.Float64bits"], unfollowed := true, recurses := true, apart := false }
def CplxListsSaid : Prop := cplxListsRow.holds Try.pinned (OpenSpec.ofChange cplxListsSpec)

/-- ITS FALSE NEIGHBOUR: 'it returns false'. Refute it at one input. -/
def cplxListsWrong : ChangeSpec := { name := "cplxLists", fn := fun _ => fun
  | [d1, d2] => { results := [.lit (.bool false)], args := [d1, d2] }
  | _ => none }
def CplxListsWrongFalsely : Prop := cplxListsRow.holds Try.pinned (OpenSpec.ofChange cplxListsWrong)

/-- 'diapasonlaw06.CplxRules': WHATEVER THE INPUT: true; the input reads as it did. -/
def cplxRulesSpec : ChangeSpec := { name := "cplxRules", fn := fun _ => fun
  | [d1, d2] => { results := [.lit (.bool true)], args := [d1, d2] }
  | _ => none }
def cplxRulesRow : OpenClaim := { program := "ytnclnbbnkfolgaa", sum := "22c6c9ddc7e61cbb7ff24d40854babc30068f47b3edd877f598eaf77ffa16c4f", func := "diapason/diapasonlaw06.CplxRules", spec := "cplxRules", inPlace := ["math.Float64frombits", "math.Float64bits"], unfollowed := true, recurses := true, apart := false }
def CplxRulesSaid : Prop := cplxRulesRow.holds Try.pinned (OpenSpec.ofChange cplxRulesSpec)

/-- ITS FALSE NEIGHBOUR: 'it returns false'. Refute it at one input. -/
def cplxRulesWrong : ChangeSpec := { name := "cplxRules", fn := fun _ => fun
  | [d1, d2] => { results := [.lit (.bool false)], args := [d1, d2] }
  | _ => none }
def CplxRulesWrongFalsely : Prop := cplxRulesRow.holds Try.pinned (OpenSpec.ofChange cplxRulesWrong)

/- THE SECOND FORM. 'bulk': how many values and letters a reading holds, each counted each time it is reached (what is shared counts as often as it is met; a slice's spare places count too). A statement '..UptoSaid' is the law's where the arguments, and the package variables that the reading takes, are together of bulk at most 1048576: NARROWER than '..Said'. Prove '..Said' where nothing that the law and all that it calls make is longer than what came in: it says more and counts as full. Else prove '..UptoSaid'. A law counts once. -/
mutual
def uptoBulk {H : Type} : DataW H → Nat
  | .lit (.string bytes) => bytes.length + 1
  | .lit _ => 1
  | .nil => 1
  | .ptr d => uptoBulk d + 1
  | .slice elems spare => uptoBulkAll elems + uptoBulkAll spare + 1
  | .agg parts => uptoBulkAll parts + 1
  | .iface _ d => uptoBulk d + 1
  | .map entries => uptoBulkEntries entries + 1
  | .held _ => 1
def uptoBulkAll {H : Type} : List (DataW H) → Nat
  | [] => 0
  | d :: r => uptoBulk d + uptoBulkAll r
def uptoBulkEntries {H : Type} : List (Lit × DataW H) → Nat
  | [] => 0
  | x :: r => uptoBulkEntry x + uptoBulkEntries r
def uptoBulkEntry {H : Type} : Lit × DataW H → Nat
  | (.string bytes, d) => bytes.length + uptoBulk d + 1
  | (_, d) => uptoBulk d + 1
 end
def uptoSmall : (H : Type) → List (DataW H) → Bool := fun _ ds => decide (uptoBulkAll ds ≤ 1048576)
def OpenSpec.upto (s : _root_.Go.ChangeSpec) : _root_.Go.OpenSpec := { _root_.Go.OpenSpec.ofChange s with cond := some uptoSmall }

/-- 'diapasonlaw06.CplxSums', WHERE WHAT IT READS IS OF BULK AT MOST 1048576: true; the input reads as it did. -/
def cplxSumsUptoRow : OpenClaim := { program := "ytnclnbbnkfolgaa", sum := "22c6c9ddc7e61cbb7ff24d40854babc30068f47b3edd877f598eaf77ffa16c4f", func := "diapason/diapasonlaw06.CplxSums", spec := "cplxSums", inPlace := ["math.Float64frombits", "math.Float64bits"], unfollowed := true, recurses := true, apart := false, narrowed := true }
def CplxSumsUptoSaid : Prop := cplxSumsUptoRow.holds Try.pinned (OpenSpec.upto cplxSumsSpec)

/-- 'diapasonlaw06.CplxMuls', WHERE WHAT IT READS IS OF BULK AT MOST 1048576: true; the input reads as it did. -/
def cplxMulsUptoRow : OpenClaim := { program := "ytnclnbbnkfolgaa", sum := "22c6c9ddc7e61cbb7ff24d40854babc30068f47b3edd877f598eaf77ffa16c4f", func := "diapason/diapasonlaw06.CplxMuls", spec := "cplxMuls", inPlace := ["math.Float64frombits", "math.Float64bits"], unfollowed := true, recurses := true, apart := false, narrowed := true }
def CplxMulsUptoSaid : Prop := cplxMulsUptoRow.holds Try.pinned (OpenSpec.upto cplxMulsSpec)

/-- 'diapasonlaw06.CplxTurns', WHERE WHAT IT READS IS OF BULK AT MOST 1048576: true; the input reads as it did. -/
def cplxTurnsUptoRow : OpenClaim := { program := "ytnclnbbnkfolgaa", sum := "22c6c9ddc7e61cbb7ff24d40854babc30068f47b3edd877f598eaf77ffa16c4f", func := "diapason/diapasonlaw06.CplxTurns", spec := "cplxTurns", inPlace := ["math.Float64frombits", "math.Float64bits"], unfollowed := true, recurses := true, apart := false, narrowed := true }
def CplxTurnsUptoSaid : Prop := cplxTurnsUptoRow.holds Try.pinned (OpenSpec.upto cplxTurnsSpec)

/-- 'diapasonlaw06.CplxGuards', WHERE WHAT IT READS IS OF BULK AT MOST 1048576: true; the input reads as it did. -/
def cplxGuardsUptoRow : OpenClaim := { program := "ytnclnbbnkfolgaa", sum := "22c6c9ddc7e61cbb7ff24d40854babc30068f47b3edd877f598eaf77ffa16c4f", func := "diapason/diapasonlaw06.CplxGuards", spec := "cplxGuards", inPlace := ["math.Float64frombits", "math.Float64bits"], unfollowed := true, recurses := true, apart := false, narrowed := true }
def CplxGuardsUptoSaid : Prop := cplxGuardsUptoRow.holds Try.pinned (OpenSpec.upto cplxGuardsSpec)

/-- 'diapasonlaw06.CplxLists', WHERE WHAT IT READS IS OF BULK AT MOST 1048576: true; the input reads as it did. -/
def cplxListsUptoRow : OpenClaim := { program := "ytnclnbbnkfolgaa", sum := "22c6c9ddc7e61cbb7ff24d40854babc30068f47b3edd877f598eaf77ffa16c4f", func := "diapason/diapasonlaw06.CplxLists", spec := "cplxLists", inPlace := ["math.Float64frombits", "math.Float64bits"], unfollowed := true, recurses := true, apart := false, narrowed := true }
def CplxListsUptoSaid : Prop := cplxListsUptoRow.holds Try.pinned (OpenSpec.upto cplxListsSpec)

/-- 'diapasonlaw06.CplxRules', WHERE WHAT IT READS IS OF BULK AT MOST 1048576: true; the input reads as it did. -/
def cplxRulesUptoRow : OpenClaim := { program := "ytnclnbbnkfolgaa", sum := "22c6c9ddc7e61cbb7ff24d40854babc30068f47b3edd877f598eaf77ffa16c4f", func := "diapason/diapasonlaw06.CplxRules", spec := "cplxRules", inPlace := ["math.Float64frombits", "math.Float64bits"], unfollowed := true, recurses := true, apart := false, narrowed := true }
def CplxRulesUptoSaid : Prop := cplxRulesUptoRow.holds Try.pinned (OpenSpec.upto cplxRulesSpec)

end Rows
end Go.Proofs.Ytnclnbbnkfolgaa
