/- What the card's tie gives the walks of layer 2: the twelve bases lie in memory. -/
import Derived.Test.YtcglffigbdglpaaDoorRows
import Derived.Test.YtcglffigbdglpaaDoorIs
import Derived.Test.YtcglffigbdglpaaDoorLaid
namespace Go.Proofs.YtcglffigbdglpaaDoor
open Go.RowKit Go.ChangeShapes Go.WideShapes Go.ChangeAt

def laidB : List (String × DataW Unit) := [("diapason/prime.bases", Rows.laid_diapason_prime_bases)]
theorem gBases : Tryd.prog.globalNamed "diapason/prime.bases" = some 0 := by kernel_rfl
theorem tBases : (Tryd.prog.globals[0]?).map (·.type) = some 35 := by kernel_rfl
theorem door_met (os : Os) (args : Array Value) : laidMetH Tryd.prog laidB ((World.doorLaid Tryd.prog 400 os).forCall (fun _ _ => 0) ⟨#[], args, []⟩).memory :=
  laidMetH_of_parts3 (fuel := 8) (laidMet_of_run' 8 (by kernel_rfl) (by kernel_rfl)) (by kernel_rfl) (by kernel_rfl)
theorem bases_of_laid {W : World} (h : laidMetH Tryd.prog laidB W) : Bases W := by
  rw [MakeChecks.laidMetH_plain _ _ _ (by kernel_rfl)] at h
  obtain ⟨ps, ⟨g0, t0, cs0, f0, p0, q0, hg0, ht0, hv0, hd0, _, _⟩, _, _⟩ := h
  obtain rfl := Option.some.inj (gBases.symm.trans hg0)
  obtain rfl := Option.some.inj (tBases.symm.trans ht0)
  have hc := cells_of_laid (ds := basesL) Tryd.underlying35 Tryd.underlying2 (by kernel_rfl) hd0
  have key : ∀ (j : Nat) k, basesL[j]? = some k → W.cell? ⟨0, j, none⟩ = some (.int .i64 k) := fun j k hj => by
    rw [World.var?_cell hg0 hv0 j, ← Array.getElem?_toList]
    exact hc j k hj
  exact ⟨key 0 _ rfl, key 1 _ rfl, key 2 _ rfl, key 3 _ rfl, key 4 _ rfl, key 5 _ rfl, key 6 _ rfl, key 7 _ rfl, key 8 _ rfl, key 9 _ rfl, key 10 _ rfl, key 11 _ rfl⟩
end Go.Proofs.YtcglffigbdglpaaDoor
