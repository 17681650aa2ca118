/- CplxRules: what products are the other way round and of conjugates. -/
import Derived.Test.YtnclnbbnkfolgaaSign6B
import Derived.Test.YtnclnbbnkfolgaaRot6
namespace Go.Proofs.Ytnclnbbnkfolgaa
open Go.RowKit

theorem fr_ex {op : BinOp} (x y : Nat) : ∃ r, FR op x y r := by
  unfold FR
  cases h : floatBits op .f64 x y with
  | some r => exact ⟨r, Or.inl rfl⟩
  | none => exact ⟨9221120237041090561, Or.inr ⟨rfl, nan_low.mpr (by decide)⟩⟩
theorem Eq6.sm_l {x y z : Nat} (h : Sm x y) (k : Eq6 y z) : Eq6 x z := by
  rcases h with rfl | ⟨a, b⟩
  · exact k
  · rcases k with k | ⟨_, c⟩
    · have := ord_nan_l b z
      have k' : FloatKind.f64.format.order y z = some .eq := k
      rw [this] at k'; cases k'
    · exact Or.inr ⟨a, c⟩
theorem MulRe.swap {x y u v p q : Nat} (h : MulRe x y u v p) (k : MulRe u v x y q) : Sm p q := by
  obtain ⟨a, b, h1, h2, h3⟩ := h
  obtain ⟨a', b', k1, k2, k3⟩ := k
  exact h3.sm arS k3 (h1.sm arM k1.comm_mul (Sm.refl _) (Sm.refl _)) (h2.sm arM k2.comm_mul (Sm.refl _) (Sm.refl _))
theorem MulIm.swap {x y u v p q : Nat} (h : MulIm x y u v p) (k : MulIm u v x y q) : Sm p q := by
  obtain ⟨a, b, h1, h2, h3⟩ := h
  obtain ⟨a', b', k1, k2, k3⟩ := k
  exact h3.sm arA k3.comm_add (h1.sm arM k2.comm_mul (Sm.refl _) (Sm.refl _)) (h2.sm arM k1.comm_mul (Sm.refl _) (Sm.refl _))
theorem MulRe.conj {x y u v p q : Nat} (hy : W64 y) (hv : W64 v) (h : MulRe x y u v p) (k : MulRe x (Op.negFloat .f64 y) u (Op.negFloat .f64 v) q) : Sm q p := by
  obtain ⟨a, b, h1, h2, h3⟩ := h
  obtain ⟨a', b', k1, k2, k3⟩ := k
  exact k3.sm arS h3 (k1.sm arM h1 (Sm.refl _) (Sm.refl _)) (h2.mul_nn hy hv k2)
theorem MulIm.conj {x y u v p q : Nat} (hy : W64 y) (hv : W64 v) (h : MulIm x y u v p) (k : MulIm x (Op.negFloat .f64 y) u (Op.negFloat .f64 v) q) : Eq6 q (Op.negFloat .f64 p) := by
  obtain ⟨a, b, h1, h2, h3⟩ := h
  obtain ⟨a', b', k1, k2, k3⟩ := k
  obtain ⟨r, hr⟩ := fr_ex (op := .add) (Op.negFloat .f64 a) (Op.negFloat .f64 b)
  exact Eq6.sm_l (k3.sm arA hr (h1.mul_nr hv k1) (h2.mul_nl hy k2)) (h3.add_nn (h1.wn arM) (h2.wn arM) hr)
theorem eq_any (x y : Nat) (w : World) (h : Eq6 x y) : Calls Try.prog 25 #[.float .f64 x, .float .f64 y] w fun r w' => r = .returned (.bool true) ∧ w = w' := by
  rcases h with h | ⟨a, b⟩
  · have h' : FloatKind.f64.format.order x y = some .eq := h
    clear h
    go_enter Try.func25, Try.ntmps25
    go_wp2
    go_ret
    exact ⟨rfl, rfl⟩
  · have h' : FloatKind.f64.format.order x y = none := ord_nan_l a y
    have o1 := ord_nan_l a x
    have o2 := ord_nan_l b y
    clear a b
    go_enter Try.func25, Try.ntmps25
    go_wp2
    go_ret
    exact ⟨rfl, rfl⟩
end Go.Proofs.Ytnclnbbnkfolgaa
