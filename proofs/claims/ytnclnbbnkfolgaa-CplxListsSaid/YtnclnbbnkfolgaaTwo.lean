/- A block of two floats that a call has laid: read and written. No program is named here. -/
import Derived.Test.YtnclnbbnkfolgaaBase
namespace Go.Proofs.Ytnclnbbnkfolgaa
open Go.RowKit

/-- a float stored -/
theorem run_store_float (P : Program) (a : Addr) (x : Nat) (m : Mode) (w : World) : (store a (.float .f64 x) m).run P w = stored P w a (.float .f64 x) m := run_store P w a _ m rfl
structure Two (w : World) (R : Nat) (a b : Nat) : Prop where
  c0 : w.cell? ⟨R, 0, none⟩ = some (.float .f64 a)
  c1 : w.cell? ⟨R, 1, none⟩ = some (.float .f64 b)
  z0 : w.frozen? ⟨R, 0, none⟩ = false
  z1 : w.frozen? ⟨R, 1, none⟩ = false
theorem Two.new (w : World) (a b : Nat) (t : TypeId) : Two (w.alloc (.cells #[.float .f64 a, .float .f64 b] t)) w.heap.size a b :=
  ⟨by rw [World.cell?_alloc_new]; rfl, by rw [World.cell?_alloc_new]; rfl, frozen_of_row _ _ 0 _ t (heap_alloc_new w _), frozen_of_row _ _ 1 _ t (heap_alloc_new w _)⟩
theorem Two.bel {w w' : World} {R a b : Nat} (h : Two w R a b) (hB : Bel w w') (hR : R < w.heap.size) : Two w' R a b :=
  ⟨(hB.cell hR).trans h.c0, (hB.cell hR).trans h.c1, (hB.frozen hR).trans h.z0, (hB.frozen hR).trans h.z1⟩
/-- the first cell written: what the second reads -/
theorem Two.mid {w : World} {R a b : Nat} (h : Two w R a b) (a' : Nat) : (w.setCell ⟨R, 0, none⟩ (.float .f64 a')).cell? ⟨R, 1, none⟩ = some (.float .f64 b) ∧ (w.setCell ⟨R, 0, none⟩ (.float .f64 a')).frozen? ⟨R, 1, none⟩ = false := by
  refine ⟨?_, by rw [World.frozen?_setCell]; exact h.z1⟩
  rw [World.cell?_setCell_other _ _ _ _ (by intro e; cases e)]
  exact h.c1
theorem Two.set {w : World} {R a b : Nat} (h : Two w R a b) (a' b' : Nat) : Two ((w.setCell ⟨R, 0, none⟩ (.float .f64 a')).setCell ⟨R, 1, none⟩ (.float .f64 b')) R a' b' := by
  obtain ⟨m1, m2⟩ := h.mid a'
  refine ⟨?_, ?_, by rw [World.frozen?_setCell, World.frozen?_setCell]; exact h.z0, by rw [World.frozen?_setCell]; exact m2⟩
  · rw [World.cell?_setCell_other _ _ _ _ (by intro e; cases e)]
    exact World.cell?_setCell_same' w _ _ (by rw [h.c0]; rfl)
  · exact World.cell?_setCell_same' _ _ _ (by rw [m1]; rfl)
end Go.Proofs.Ytnclnbbnkfolgaa
