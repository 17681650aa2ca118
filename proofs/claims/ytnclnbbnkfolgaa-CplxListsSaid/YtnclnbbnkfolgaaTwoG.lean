/- Blocks of two floats: what is kept. No program is named here. -/
import Derived.Test.YtnclnbbnkfolgaaTwo
import Derived.WalkKit
namespace Go.Proofs.Ytnclnbbnkfolgaa
open Go.RowKit

theorem Two.newN (w : World) (a b : Nat) (t : TypeId) (N : Nat) (h : N = w.heap.size) : Two (w.alloc (.cells #[.float .f64 a, .float .f64 b] t)) N a b := h ▸ Two.new w a b t
theorem Two.lt {w : World} {R a b : Nat} (h : Two w R a b) : R < w.heap.size := World.block_lt_of_cell? w _ h.c0
theorem Two.al {w : World} {R a b : Nat} (h : Two w R a b) (o : Obj) : Two (w.alloc o) R a b := h.bel ((Bel.refl w).alloc o) h.lt
theorem Two.dr {w : World} {R a b : Nat} (h : Two w R a b) : Two w.drew R a b := ⟨h.c0, h.c1, h.z0, h.z1⟩
theorem Two.by {w w' : World} {R a b : Nat} (g : Bel w w') (h : Two w R a b) : Two w' R a b := h.bel g h.lt
theorem Two.so {w : World} {R X a b : Nat} (hne : R ≠ X) (h : Two w R a b) (u v : Value) : Two ((w.setCell ⟨X, 0, none⟩ u).setCell ⟨X, 1, none⟩ v) R a b := by
  have k : ∀ (i j : Nat), (⟨X, i, none⟩ : Addr) ≠ ⟨R, j, none⟩ := fun i j e => by cases e; exact hne rfl
  refine ⟨?_, ?_, by rw [World.frozen?_setCell, World.frozen?_setCell]; exact h.z0, by rw [World.frozen?_setCell, World.frozen?_setCell]; exact h.z1⟩
  · rw [World.cell?_setCell_other _ _ _ _ (k _ _), World.cell?_setCell_other _ _ _ _ (k _ _)]; exact h.c0
  · rw [World.cell?_setCell_other _ _ _ _ (k _ _), World.cell?_setCell_other _ _ _ _ (k _ _)]; exact h.c1
end Go.Proofs.Ytnclnbbnkfolgaa
