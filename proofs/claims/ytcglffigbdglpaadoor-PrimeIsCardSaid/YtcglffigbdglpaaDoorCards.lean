/-
  DERIVED. GIVEN WITH THE SEED: THE CARDS: each row of YtcglffigbdglpaaDoorRows.lean that lists a variable, with what it lists TIED to the program's text (the seventh form; the later family's looks); each row that meets fmt, with fmt's text TOLD by the authors' own Lean function (tested against real Go, not proved from fmt's source: count such statements apart). THE CARD IS WHAT COUNTS. Prove the row's statement (the work); the ties are given (YtcglffigbdglpaaDoorTie.lean); close each card by the builder's one call (the guide's Derived/Test/ToyasCard.lean, 'card_holds'). Laid BY PROGRAM, IN A SANDBOX (cutbox-door.mjs). By AI agents, Wed Nov 11 2026. No macro, syntax, notation, axiom, sorry.
-/
import Derived.Test.YtcglffigbdglpaaDoorRows
import GoSem.ClaimSeven
namespace Go.Proofs.YtcglffigbdglpaaDoor
namespace Rows

/-- THE TIED CARD OF 'diapasonlaw02.PrimeIs'. -/
def primeIsCard : Claim7 := { stood := { row := primeIsRow, standIns := [], harness := (true, "1304ec6f07b35d503c07d72b1cd8cbd1a1195067bcb49bcd3b29ed7de76b816f"), looks := false }, kinds := [], alts := [], laidByText := true, laidKinds := [.data], laidTests := true, laidLooks := .later }
def PrimeIsCardSaid : Prop := Claim7.holds Tryd.pinned (.plain (OpenSpec.ofChange primeIsSpec)) primeIsCard

/-- THE TIED CARD OF 'diapasonlaw02.PrimeProducts'. -/
def primeProductsCard : Claim7 := { stood := { row := primeProductsRow, standIns := [], harness := (true, "1304ec6f07b35d503c07d72b1cd8cbd1a1195067bcb49bcd3b29ed7de76b816f"), looks := false }, kinds := [], alts := [], laidByText := true, laidKinds := [.data], laidTests := true, laidLooks := .later }
def PrimeProductsCardSaid : Prop := Claim7.holds Tryd.pinned (.plain (OpenSpec.ofChange primeProductsSpec)) primeProductsCard

/-- THE TIED CARD OF 'diapasonlaw02.PrimeFactors'. -/
def primeFactorsCard : Claim7 := { stood := { row := primeFactorsRow, standIns := [], harness := (true, "1304ec6f07b35d503c07d72b1cd8cbd1a1195067bcb49bcd3b29ed7de76b816f"), looks := false }, kinds := [], alts := [], laidByText := true, laidKinds := [.data], laidTests := true, laidLooks := .later }
def PrimeFactorsCardSaid : Prop := Claim7.holds Tryd.pinned (.plain (OpenSpec.ofChange primeFactorsSpec)) primeFactorsCard

/-- THE TIED CARD OF 'diapasonlaw02.PrimeBack'. -/
def primeBackCard : Claim7 := { stood := { row := primeBackRow, standIns := [], harness := (true, "1304ec6f07b35d503c07d72b1cd8cbd1a1195067bcb49bcd3b29ed7de76b816f"), looks := false }, kinds := [], alts := [], laidByText := true, laidKinds := [.data], laidTests := true, laidLooks := .later }
def PrimeBackCardSaid : Prop := Claim7.holds Tryd.pinned (.plain (OpenSpec.ofChange primeBackSpec)) primeBackCard

/-- THE TIED CARD OF 'diapasonlaw02.PrimeOrders'. -/
def primeOrdersCard : Claim7 := { stood := { row := primeOrdersRow, standIns := [], harness := (true, "1304ec6f07b35d503c07d72b1cd8cbd1a1195067bcb49bcd3b29ed7de76b816f"), looks := false }, kinds := [], alts := [], laidByText := true, laidKinds := [.data], laidTests := true, laidLooks := .later }
def PrimeOrdersCardSaid : Prop := Claim7.holds Tryd.pinned (.plain (OpenSpec.ofChange primeOrdersSpec)) primeOrdersCard

/-- THE TIED CARD OF 'diapasonlaw02.PrimeRoots'. -/
def primeRootsCard : Claim7 := { stood := { row := primeRootsRow, standIns := [], harness := (true, "1304ec6f07b35d503c07d72b1cd8cbd1a1195067bcb49bcd3b29ed7de76b816f"), looks := false }, kinds := [], alts := [], laidByText := true, laidKinds := [.data], laidTests := true, laidLooks := .later }
def PrimeRootsCardSaid : Prop := Claim7.holds Tryd.pinned (.plain (OpenSpec.ofChange primeRootsSpec)) primeRootsCard

/-- THE TIED CARD OF 'diapasonlaw02.PrimeDivides'. -/
def primeDividesCard : Claim7 := { stood := { row := primeDividesRow, standIns := [], harness := (true, "1304ec6f07b35d503c07d72b1cd8cbd1a1195067bcb49bcd3b29ed7de76b816f"), looks := false }, kinds := [], alts := [], laidByText := true, laidKinds := [.data], laidTests := true, laidLooks := .later }
def PrimeDividesCardSaid : Prop := Claim7.holds Tryd.pinned (.plain (OpenSpec.ofChange primeDividesSpec)) primeDividesCard

/-- THE SECOND FORM's CARD OF 'diapasonlaw02.PrimeIs'. -/
def primeIsUptoCard : Claim7 := { stood := { row := primeIsUptoRow, standIns := [], harness := (true, "1304ec6f07b35d503c07d72b1cd8cbd1a1195067bcb49bcd3b29ed7de76b816f"), looks := false }, kinds := [], alts := [], laidByText := true, laidKinds := [.data], laidTests := true, laidLooks := .later }
def PrimeIsUptoCardSaid : Prop := Claim7.holds Tryd.pinned (.plain (OpenSpec.upto primeIsSpec)) primeIsUptoCard

/-- THE SECOND FORM's CARD OF 'diapasonlaw02.PrimeProducts'. -/
def primeProductsUptoCard : Claim7 := { stood := { row := primeProductsUptoRow, standIns := [], harness := (true, "1304ec6f07b35d503c07d72b1cd8cbd1a1195067bcb49bcd3b29ed7de76b816f"), looks := false }, kinds := [], alts := [], laidByText := true, laidKinds := [.data], laidTests := true, laidLooks := .later }
def PrimeProductsUptoCardSaid : Prop := Claim7.holds Tryd.pinned (.plain (OpenSpec.upto primeProductsSpec)) primeProductsUptoCard

/-- THE SECOND FORM's CARD OF 'diapasonlaw02.PrimeFactors'. -/
def primeFactorsUptoCard : Claim7 := { stood := { row := primeFactorsUptoRow, standIns := [], harness := (true, "1304ec6f07b35d503c07d72b1cd8cbd1a1195067bcb49bcd3b29ed7de76b816f"), looks := false }, kinds := [], alts := [], laidByText := true, laidKinds := [.data], laidTests := true, laidLooks := .later }
def PrimeFactorsUptoCardSaid : Prop := Claim7.holds Tryd.pinned (.plain (OpenSpec.upto primeFactorsSpec)) primeFactorsUptoCard

/-- THE SECOND FORM's CARD OF 'diapasonlaw02.PrimeBack'. -/
def primeBackUptoCard : Claim7 := { stood := { row := primeBackUptoRow, standIns := [], harness := (true, "1304ec6f07b35d503c07d72b1cd8cbd1a1195067bcb49bcd3b29ed7de76b816f"), looks := false }, kinds := [], alts := [], laidByText := true, laidKinds := [.data], laidTests := true, laidLooks := .later }
def PrimeBackUptoCardSaid : Prop := Claim7.holds Tryd.pinned (.plain (OpenSpec.upto primeBackSpec)) primeBackUptoCard

/-- THE SECOND FORM's CARD OF 'diapasonlaw02.PrimeOrders'. -/
def primeOrdersUptoCard : Claim7 := { stood := { row := primeOrdersUptoRow, standIns := [], harness := (true, "1304ec6f07b35d503c07d72b1cd8cbd1a1195067bcb49bcd3b29ed7de76b816f"), looks := false }, kinds := [], alts := [], laidByText := true, laidKinds := [.data], laidTests := true, laidLooks := .later }
def PrimeOrdersUptoCardSaid : Prop := Claim7.holds Tryd.pinned (.plain (OpenSpec.upto primeOrdersSpec)) primeOrdersUptoCard

/-- THE SECOND FORM's CARD OF 'diapasonlaw02.PrimeRoots'. -/
def primeRootsUptoCard : Claim7 := { stood := { row := primeRootsUptoRow, standIns := [], harness := (true, "1304ec6f07b35d503c07d72b1cd8cbd1a1195067bcb49bcd3b29ed7de76b816f"), looks := false }, kinds := [], alts := [], laidByText := true, laidKinds := [.data], laidTests := true, laidLooks := .later }
def PrimeRootsUptoCardSaid : Prop := Claim7.holds Tryd.pinned (.plain (OpenSpec.upto primeRootsSpec)) primeRootsUptoCard

/-- THE SECOND FORM's CARD OF 'diapasonlaw02.PrimeDivides'. -/
def primeDividesUptoCard : Claim7 := { stood := { row := primeDividesUptoRow, standIns := [], harness := (true, "1304ec6f07b35d503c07d72b1cd8cbd1a1195067bcb49bcd3b29ed7de76b816f"), looks := false }, kinds := [], alts := [], laidByText := true, laidKinds := [.data], laidTests := true, laidLooks := .later }
def PrimeDividesUptoCardSaid : Prop := Claim7.holds Tryd.pinned (.plain (OpenSpec.upto primeDividesSpec)) primeDividesUptoCard
end Rows
end Go.Proofs.YtcglffigbdglpaaDoor
