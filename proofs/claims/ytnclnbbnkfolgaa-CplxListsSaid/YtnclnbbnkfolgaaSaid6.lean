/- What the landed cplx is to answer (layer 6). -/
import Derived.Test.YtnclnbbnkfolgaaNum6
import Derived.Test.YtnclnbbnkfolgaaTurn6
namespace Go.Proofs.Ytnclnbbnkfolgaa
open Go.RowKit

def AddSaid6 : Prop := ∀ (x y u v : Nat) (w : World), Calls Try.prog 12 #[dv x y, dv u v] w fun r w' => ∃ z, r = .returned z ∧ (∃ r s, z = dv r s ∧ FR .add x u r ∧ FR .add y v s) ∧ Bel w w'
def SubSaid6 : Prop := ∀ (x y u v : Nat) (w : World), Calls Try.prog 13 #[dv x y, dv u v] w fun r w' => ∃ z, r = .returned z ∧ (∃ r s, z = dv r s ∧ FR .sub x u r ∧ FR .sub y v s) ∧ Bel w w'
def ConjSaid6 : Prop := ∀ (x y : Nat) (w : World), Calls Try.prog 14 #[dv x y] w fun r w' => r = .returned (dv x (Op.negFloat .f64 y)) ∧ Bel w w'
def MulSaid6 : Prop := ∀ (x y u v : Nat) (w : World), Calls Try.prog 16 #[dv x y, dv u v] w fun r w' => ∃ z, r = .returned z ∧ (∃ r s, z = dv r s ∧ MulR6 x y u v r s) ∧ Bel w w'
def WakesSaid6 : Prop := ∀ w : World, Calls Try.prog 10 #[] w fun r w' => r = .returned (.bool true) ∧ Bel w w'
/-- is, of like parts -/
theorem is_rel {ψ χ : Nat → Prop} {Φ : Nat → Nat → Prop} (h : ∀ r s p q, Φ r s → ψ p → χ q → Sm r p ∧ Sm s q) (w : World) (z0 : Value) (h0 : ∃ r s, z0 = dv r s ∧ Φ r s) (z1 : Value) (h1 : ∃ p, z1 = .float .f64 p ∧ ψ p) (z2 : Value) (h2 : ∃ q, z2 = .float .f64 q ∧ χ q) :
    Calls Try.prog 11 #[z0, z1, z2] w fun r w' => r = .returned (.bool true) ∧ Bel w w' := by
  obtain ⟨r, s, rfl, k0⟩ := h0
  obtain ⟨p, rfl, k1⟩ := h1
  obtain ⟨q, rfl, k2⟩ := h2
  obtain ⟨a, b⟩ := h r s p q k0 k1 k2
  exact is_any r s p q w a b
end Go.Proofs.Ytnclnbbnkfolgaa
