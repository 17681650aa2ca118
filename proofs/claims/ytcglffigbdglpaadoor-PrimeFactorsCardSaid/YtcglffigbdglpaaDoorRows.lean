/-
  NARROWER THAN 'FOR EVERY INPUT', by the rows' own cells (each row's printed sentence says how): PrimeIs: laid · PrimeProducts: laid · PrimeFactors: laid · PrimeBack: laid · PrimeOrders: laid · PrimeRoots: laid · PrimeDivides: laid.
  DERIVED. THE GIVEN ROWS OF THIS SEAT. 7 by the template 'for every input the law returns true; each argument reads behind the call as it read before'; 0 by the template 'total and deterministic' (their statements: YtcglffigbdglpaaDoorTotals.lean).
  GIVEN WITH THE SEED: the statements are not yours to turn. If you find one false, say at which input.
  Laid BY PROGRAM, IN A SANDBOX (cutbox-rows.mjs): the forced cells as the released guide's own fill.sh prints them over the translation 9bd82cf77bc5a705… (all of the seat's roots in one cut). By AI agents, Wed Nov 11 2026. No macro, syntax, notation, axiom, sorry.
-/
import Derived.Test.YtcglffigbdglpaaDoorChecked
import GoSem.Claim
import GoSem.ClaimJoined
import GoSem.ClaimMapViews
import Derived.JoinedTies
import Derived.KernelRfl
namespace Go.Proofs.YtcglffigbdglpaaDoor
/- THE CELL 'sum', in the pinned program and in every row, IS THE sha256 OF THE DUMP (.gsa) THAT YtcglffigbdglpaaDoorProg.lean LOADS. Nothing in Lean hashes anything: it is a label: what it is worth is what the hold of that sum in a sandbox is worth. -/
noncomputable def Tryd.pinned : Pinned := { name := "ytcglffigbdglpaadoor", sum := "9bd82cf77bc5a705f85de2a47bbd798cf0fff298fae020f00aee36c2b2a5981f", checked := Tryd.checked }
namespace Rows
def none {H : Type} : Left H := { results := [], args := [] }

/- WHAT THE LISTED PACKAGE-LEVEL VARIABLES READ AS WHEN THE CALL BEGINS. Each datum BY PROGRAM (the guide's laid-datum.mjs) off the statement by which the dump's own 'gosem.cut.vars' lays the variable. In a bare row this is a premise. The card (YtcglffigbdglpaaDoorCards.lean) ties it to the program's text. -/
def laid_diapason_prime_bases {H : Type} : DataW H := .agg [.lit (.int .i64 2), .lit (.int .i64 3), .lit (.int .i64 5), .lit (.int .i64 7), .lit (.int .i64 11), .lit (.int .i64 13), .lit (.int .i64 17), .lit (.int .i64 19), .lit (.int .i64 23), .lit (.int .i64 29), .lit (.int .i64 31), .lit (.int .i64 37)]

/-- 'diapasonlaw02.PrimeIs': WHATEVER THE INPUT: true; the input reads as it did. -/
def primeIsSpec : ChangeSpec := { name := "primeIs", fn := fun _ => fun
  | [d] => { results := [.lit (.bool true)], args := [d] }
  | _ => none }
def primeIsRow : OpenClaim := { program := "ytcglffigbdglpaadoor", sum := "9bd82cf77bc5a705f85de2a47bbd798cf0fff298fae020f00aee36c2b2a5981f", func := "diapason/diapasonlaw02.PrimeIs", spec := "primeIs", named := ["diapason/prime.bases", "math/bits.divideError", "math/bits.overflowError"], apart := false, laid := [("diapason/prime.bases", laid_diapason_prime_bases)] }
def PrimeIsSaid : Prop := primeIsRow.holds Tryd.pinned (OpenSpec.ofChange primeIsSpec)

/-- ITS FALSE NEIGHBOUR: 'it returns false'. Refute it at one input. -/
def primeIsWrong : ChangeSpec := { name := "primeIs", fn := fun _ => fun
  | [d] => { results := [.lit (.bool false)], args := [d] }
  | _ => none }
def PrimeIsWrongFalsely : Prop := primeIsRow.holds Tryd.pinned (OpenSpec.ofChange primeIsWrong)

/-- 'diapasonlaw02.PrimeProducts': WHATEVER THE INPUT: true; the input reads as it did. -/
def primeProductsSpec : ChangeSpec := { name := "primeProducts", fn := fun _ => fun
  | [d1, d2] => { results := [.lit (.bool true)], args := [d1, d2] }
  | _ => none }
def primeProductsRow : OpenClaim := { program := "ytcglffigbdglpaadoor", sum := "9bd82cf77bc5a705f85de2a47bbd798cf0fff298fae020f00aee36c2b2a5981f", func := "diapason/diapasonlaw02.PrimeProducts", spec := "primeProducts", unfollowed := true, recurses := true, named := ["diapason/prime.bases", "math/bits.divideError", "math/bits.overflowError"], apart := false, laid := [("diapason/prime.bases", laid_diapason_prime_bases)] }
def PrimeProductsSaid : Prop := primeProductsRow.holds Tryd.pinned (OpenSpec.ofChange primeProductsSpec)

/-- ITS FALSE NEIGHBOUR: 'it returns false'. Refute it at one input. -/
def primeProductsWrong : ChangeSpec := { name := "primeProducts", fn := fun _ => fun
  | [d1, d2] => { results := [.lit (.bool false)], args := [d1, d2] }
  | _ => none }
def PrimeProductsWrongFalsely : Prop := primeProductsRow.holds Tryd.pinned (OpenSpec.ofChange primeProductsWrong)

/-- 'diapasonlaw02.PrimeFactors': WHATEVER THE INPUT: true; the input reads as it did. -/
def primeFactorsSpec : ChangeSpec := { name := "primeFactors", fn := fun _ => fun
  | [d] => { results := [.lit (.bool true)], args := [d] }
  | _ => none }
def primeFactorsRow : OpenClaim := { program := "ytcglffigbdglpaadoor", sum := "9bd82cf77bc5a705f85de2a47bbd798cf0fff298fae020f00aee36c2b2a5981f", func := "diapason/diapasonlaw02.PrimeFactors", spec := "primeFactors", named := ["diapason/prime.bases", "math/bits.divideError", "math/bits.overflowError"], apart := false, laid := [("diapason/prime.bases", laid_diapason_prime_bases)] }
def PrimeFactorsSaid : Prop := primeFactorsRow.holds Tryd.pinned (OpenSpec.ofChange primeFactorsSpec)

/-- ITS FALSE NEIGHBOUR: 'it returns false'. Refute it at one input. -/
def primeFactorsWrong : ChangeSpec := { name := "primeFactors", fn := fun _ => fun
  | [d] => { results := [.lit (.bool false)], args := [d] }
  | _ => none }
def PrimeFactorsWrongFalsely : Prop := primeFactorsRow.holds Tryd.pinned (OpenSpec.ofChange primeFactorsWrong)

/-- 'diapasonlaw02.PrimeBack': WHATEVER THE INPUT: true; the input reads as it did. -/
def primeBackSpec : ChangeSpec := { name := "primeBack", fn := fun _ => fun
  | [d] => { results := [.lit (.bool true)], args := [d] }
  | _ => none }
def primeBackRow : OpenClaim := { program := "ytcglffigbdglpaadoor", sum := "9bd82cf77bc5a705f85de2a47bbd798cf0fff298fae020f00aee36c2b2a5981f", func := "diapason/diapasonlaw02.PrimeBack", spec := "primeBack", named := ["diapason/prime.bases", "math/bits.divideError", "math/bits.overflowError"], apart := false, laid := [("diapason/prime.bases", laid_diapason_prime_bases)] }
def PrimeBackSaid : Prop := primeBackRow.holds Tryd.pinned (OpenSpec.ofChange primeBackSpec)

/-- ITS FALSE NEIGHBOUR: 'it returns false'. Refute it at one input. -/
def primeBackWrong : ChangeSpec := { name := "primeBack", fn := fun _ => fun
  | [d] => { results := [.lit (.bool false)], args := [d] }
  | _ => none }
def PrimeBackWrongFalsely : Prop := primeBackRow.holds Tryd.pinned (OpenSpec.ofChange primeBackWrong)

/-- 'diapasonlaw02.PrimeOrders': WHATEVER THE INPUT: true; the input reads as it did. -/
def primeOrdersSpec : ChangeSpec := { name := "primeOrders", fn := fun _ => fun
  | [d1, d2] => { results := [.lit (.bool true)], args := [d1, d2] }
  | _ => none }
def primeOrdersRow : OpenClaim := { program := "ytcglffigbdglpaadoor", sum := "9bd82cf77bc5a705f85de2a47bbd798cf0fff298fae020f00aee36c2b2a5981f", func := "diapason/diapasonlaw02.PrimeOrders", spec := "primeOrders", named := ["diapason/prime.bases", "math/bits.divideError", "math/bits.overflowError"], apart := false, laid := [("diapason/prime.bases", laid_diapason_prime_bases)] }
def PrimeOrdersSaid : Prop := primeOrdersRow.holds Tryd.pinned (OpenSpec.ofChange primeOrdersSpec)

/-- ITS FALSE NEIGHBOUR: 'it returns false'. Refute it at one input. -/
def primeOrdersWrong : ChangeSpec := { name := "primeOrders", fn := fun _ => fun
  | [d1, d2] => { results := [.lit (.bool false)], args := [d1, d2] }
  | _ => none }
def PrimeOrdersWrongFalsely : Prop := primeOrdersRow.holds Tryd.pinned (OpenSpec.ofChange primeOrdersWrong)

/-- 'diapasonlaw02.PrimeRoots': WHATEVER THE INPUT: true; the input reads as it did. -/
def primeRootsSpec : ChangeSpec := { name := "primeRoots", fn := fun _ => fun
  | [d] => { results := [.lit (.bool true)], args := [d] }
  | _ => none }
def primeRootsRow : OpenClaim := { program := "ytcglffigbdglpaadoor", sum := "9bd82cf77bc5a705f85de2a47bbd798cf0fff298fae020f00aee36c2b2a5981f", func := "diapason/diapasonlaw02.PrimeRoots", spec := "primeRoots", unfollowed := true, recurses := true, named := ["diapason/prime.bases", "math/bits.divideError", "math/bits.overflowError"], apart := false, laid := [("diapason/prime.bases", laid_diapason_prime_bases)] }
def PrimeRootsSaid : Prop := primeRootsRow.holds Tryd.pinned (OpenSpec.ofChange primeRootsSpec)

/-- ITS FALSE NEIGHBOUR: 'it returns false'. Refute it at one input. -/
def primeRootsWrong : ChangeSpec := { name := "primeRoots", fn := fun _ => fun
  | [d] => { results := [.lit (.bool false)], args := [d] }
  | _ => none }
def PrimeRootsWrongFalsely : Prop := primeRootsRow.holds Tryd.pinned (OpenSpec.ofChange primeRootsWrong)

/-- 'diapasonlaw02.PrimeDivides': WHATEVER THE INPUT: true; the input reads as it did. -/
def primeDividesSpec : ChangeSpec := { name := "primeDivides", fn := fun _ => fun
  | [d1, d2] => { results := [.lit (.bool true)], args := [d1, d2] }
  | _ => none }
def primeDividesRow : OpenClaim := { program := "ytcglffigbdglpaadoor", sum := "9bd82cf77bc5a705f85de2a47bbd798cf0fff298fae020f00aee36c2b2a5981f", func := "diapason/diapasonlaw02.PrimeDivides", spec := "primeDivides", named := ["diapason/prime.bases", "math/bits.divideError", "math/bits.overflowError"], apart := false, laid := [("diapason/prime.bases", laid_diapason_prime_bases)] }
def PrimeDividesSaid : Prop := primeDividesRow.holds Tryd.pinned (OpenSpec.ofChange primeDividesSpec)

/-- ITS FALSE NEIGHBOUR: 'it returns false'. Refute it at one input. -/
def primeDividesWrong : ChangeSpec := { name := "primeDivides", fn := fun _ => fun
  | [d1, d2] => { results := [.lit (.bool false)], args := [d1, d2] }
  | _ => none }
def PrimeDividesWrongFalsely : Prop := primeDividesRow.holds Tryd.pinned (OpenSpec.ofChange primeDividesWrong)

/- THE SECOND FORM. 'bulk': how many values and letters a reading holds, each counted each time it is reached (what is shared counts as often as it is met; a slice's spare places count too). A statement '..UptoSaid' is the law's where the arguments, and the package variables that the reading takes, are together of bulk at most 1048576: NARROWER than '..Said'. Prove '..Said' where nothing that the law and all that it calls make is longer than what came in: it says more and counts as full. Else prove '..UptoSaid'. A law counts once. -/
mutual
def uptoBulk {H : Type} : DataW H → Nat
  | .lit (.string bytes) => bytes.length + 1
  | .lit _ => 1
  | .nil => 1
  | .ptr d => uptoBulk d + 1
  | .slice elems spare => uptoBulkAll elems + uptoBulkAll spare + 1
  | .agg parts => uptoBulkAll parts + 1
  | .iface _ d => uptoBulk d + 1
  | .map entries => uptoBulkEntries entries + 1
  | .held _ => 1
def uptoBulkAll {H : Type} : List (DataW H) → Nat
  | [] => 0
  | d :: r => uptoBulk d + uptoBulkAll r
def uptoBulkEntries {H : Type} : List (Lit × DataW H) → Nat
  | [] => 0
  | x :: r => uptoBulkEntry x + uptoBulkEntries r
def uptoBulkEntry {H : Type} : Lit × DataW H → Nat
  | (.string bytes, d) => bytes.length + uptoBulk d + 1
  | (_, d) => uptoBulk d + 1
 end
def uptoSmall : (H : Type) → List (DataW H) → Bool := fun _ ds => decide (uptoBulkAll ds ≤ 1048576)
def OpenSpec.upto (s : _root_.Go.ChangeSpec) : _root_.Go.OpenSpec := { _root_.Go.OpenSpec.ofChange s with cond := some uptoSmall }

/-- 'diapasonlaw02.PrimeIs', WHERE WHAT IT READS IS OF BULK AT MOST 1048576: true; the input reads as it did. -/
def primeIsUptoRow : OpenClaim := { program := "ytcglffigbdglpaadoor", sum := "9bd82cf77bc5a705f85de2a47bbd798cf0fff298fae020f00aee36c2b2a5981f", func := "diapason/diapasonlaw02.PrimeIs", spec := "primeIs", named := ["diapason/prime.bases", "math/bits.divideError", "math/bits.overflowError"], apart := false, laid := [("diapason/prime.bases", laid_diapason_prime_bases)], narrowed := true }
def PrimeIsUptoSaid : Prop := primeIsUptoRow.holds Tryd.pinned (OpenSpec.upto primeIsSpec)

/-- 'diapasonlaw02.PrimeProducts', WHERE WHAT IT READS IS OF BULK AT MOST 1048576: true; the input reads as it did. -/
def primeProductsUptoRow : OpenClaim := { program := "ytcglffigbdglpaadoor", sum := "9bd82cf77bc5a705f85de2a47bbd798cf0fff298fae020f00aee36c2b2a5981f", func := "diapason/diapasonlaw02.PrimeProducts", spec := "primeProducts", unfollowed := true, recurses := true, named := ["diapason/prime.bases", "math/bits.divideError", "math/bits.overflowError"], apart := false, laid := [("diapason/prime.bases", laid_diapason_prime_bases)], narrowed := true }
def PrimeProductsUptoSaid : Prop := primeProductsUptoRow.holds Tryd.pinned (OpenSpec.upto primeProductsSpec)

/-- 'diapasonlaw02.PrimeFactors', WHERE WHAT IT READS IS OF BULK AT MOST 1048576: true; the input reads as it did. -/
def primeFactorsUptoRow : OpenClaim := { program := "ytcglffigbdglpaadoor", sum := "9bd82cf77bc5a705f85de2a47bbd798cf0fff298fae020f00aee36c2b2a5981f", func := "diapason/diapasonlaw02.PrimeFactors", spec := "primeFactors", named := ["diapason/prime.bases", "math/bits.divideError", "math/bits.overflowError"], apart := false, laid := [("diapason/prime.bases", laid_diapason_prime_bases)], narrowed := true }
def PrimeFactorsUptoSaid : Prop := primeFactorsUptoRow.holds Tryd.pinned (OpenSpec.upto primeFactorsSpec)

/-- 'diapasonlaw02.PrimeBack', WHERE WHAT IT READS IS OF BULK AT MOST 1048576: true; the input reads as it did. -/
def primeBackUptoRow : OpenClaim := { program := "ytcglffigbdglpaadoor", sum := "9bd82cf77bc5a705f85de2a47bbd798cf0fff298fae020f00aee36c2b2a5981f", func := "diapason/diapasonlaw02.PrimeBack", spec := "primeBack", named := ["diapason/prime.bases", "math/bits.divideError", "math/bits.overflowError"], apart := false, laid := [("diapason/prime.bases", laid_diapason_prime_bases)], narrowed := true }
def PrimeBackUptoSaid : Prop := primeBackUptoRow.holds Tryd.pinned (OpenSpec.upto primeBackSpec)

/-- 'diapasonlaw02.PrimeOrders', WHERE WHAT IT READS IS OF BULK AT MOST 1048576: true; the input reads as it did. -/
def primeOrdersUptoRow : OpenClaim := { program := "ytcglffigbdglpaadoor", sum := "9bd82cf77bc5a705f85de2a47bbd798cf0fff298fae020f00aee36c2b2a5981f", func := "diapason/diapasonlaw02.PrimeOrders", spec := "primeOrders", named := ["diapason/prime.bases", "math/bits.divideError", "math/bits.overflowError"], apart := false, laid := [("diapason/prime.bases", laid_diapason_prime_bases)], narrowed := true }
def PrimeOrdersUptoSaid : Prop := primeOrdersUptoRow.holds Tryd.pinned (OpenSpec.upto primeOrdersSpec)

/-- 'diapasonlaw02.PrimeRoots', WHERE WHAT IT READS IS OF BULK AT MOST 1048576: true; the input reads as it did. -/
def primeRootsUptoRow : OpenClaim := { program := "ytcglffigbdglpaadoor", sum := "9bd82cf77bc5a705f85de2a47bbd798cf0fff298fae020f00aee36c2b2a5981f", func := "diapason/diapasonlaw02.PrimeRoots", spec := "primeRoots", unfollowed := true, recurses := true, named := ["diapason/prime.bases", "math/bits.divideError", "math/bits.overflowError"], apart := false, laid := [("diapason/prime.bases", laid_diapason_prime_bases)], narrowed := true }
def PrimeRootsUptoSaid : Prop := primeRootsUptoRow.holds Tryd.pinned (OpenSpec.upto primeRootsSpec)

/-- 'diapasonlaw02.PrimeDivides', WHERE WHAT IT READS IS OF BULK AT MOST 1048576: true; the input reads as it did. -/
def primeDividesUptoRow : OpenClaim := { program := "ytcglffigbdglpaadoor", sum := "9bd82cf77bc5a705f85de2a47bbd798cf0fff298fae020f00aee36c2b2a5981f", func := "diapason/diapasonlaw02.PrimeDivides", spec := "primeDivides", named := ["diapason/prime.bases", "math/bits.divideError", "math/bits.overflowError"], apart := false, laid := [("diapason/prime.bases", laid_diapason_prime_bases)], narrowed := true }
def PrimeDividesUptoSaid : Prop := primeDividesUptoRow.holds Tryd.pinned (OpenSpec.upto primeDividesSpec)

end Rows
end Go.Proofs.YtcglffigbdglpaaDoor
