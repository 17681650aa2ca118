/- Float operations of a program, in whole numbers of the least unit. Over any program. -/
import Derived.Test.YtnclnbbnkfolgaaBase
import Derived.Test.YtnclnbbnkfolgaaIeee3
import Derived.Laws.FloatArith
namespace Go.Proofs.Ytnclnbbnkfolgaa
open Go.RowKit

theorem near_le {n z : Int} (h : Flt.Near n z) : z.natAbs ≤ 2 * n.natAbs := by
  have := h.le 0 Flt.fl_zero
  omega
def mtop : Nat := 1474
theorem big_ok : 1048576 * 2 ^ mtop < 2 ^ Flt.top := by
  have h : 2 ^ 20 * 2 ^ mtop < 2 ^ Flt.top := by
    rw [← Nat.pow_add]
    exact Nat.pow_lt_pow_right (by decide) (by decide)
  have e : (2 : Nat) ^ 20 = 1048576 := rfl
  rw [e] at h
  exact h
/-- n is at most c times 2^400 -/
def UpTo (c : Nat) (n : Int) : Prop := n.natAbs ≤ c * 2 ^ mtop
theorem UpTo.lt {c : Nat} {n : Int} (h : UpTo c n) (hc : c ≤ 1048576) : n.natAbs < 2 ^ Flt.top :=
  Nat.lt_of_le_of_lt (Nat.le_trans h (Nat.mul_le_mul_right _ hc)) big_ok
theorem UpTo.add {c d : Nat} {m n : Int} (h : UpTo c m) (k : UpTo d n) : UpTo (c + d) (m + n) := by
  unfold UpTo at *
  rw [Nat.add_mul]; omega
theorem UpTo.sub {c d : Nat} {m n : Int} (h : UpTo c m) (k : UpTo d n) : UpTo (c + d) (m - n) := by
  unfold UpTo at *
  rw [Nat.add_mul]; omega
theorem UpTo.near {c : Nat} {n z : Int} (h : UpTo c n) (k : Flt.Near n z) : UpTo (2 * c) z := by
  unfold UpTo at *
  have := near_le k
  rw [Nat.mul_assoc]; omega

/-- a sum in a walk -/
theorem fadd {x y : Nat} {a b : Int} {c d : Nat} (hx : Flt.Num x a) (hy : Flt.Num y b) (ha : UpTo c a) (hb : UpTo d b) (hc : c + d ≤ 1048576) :
    ∃ r z, Ieee.double.add x y = some r ∧ Flt.Num r z ∧ Flt.Near (a + b) z ∧ UpTo (2 * (c + d)) z := by
  obtain ⟨r, z, h1, h2, h3⟩ := Flt.add_num hx hy ((ha.add hb).lt hc)
  exact ⟨r, z, h1, h2, h3, (ha.add hb).near h3⟩
theorem fsub {x y : Nat} {a b : Int} {c d : Nat} (hx : Flt.Num x a) (hy : Flt.Num y b) (ha : UpTo c a) (hb : UpTo d b) (hc : c + d ≤ 1048576) :
    ∃ r z, Ieee.double.sub x y = some r ∧ Flt.Num r z ∧ Flt.Near (a - b) z ∧ UpTo (2 * (c + d)) z := by
  obtain ⟨r, z, h1, h2, h3⟩ := Flt.sub_num hx hy ((ha.sub hb).lt hc)
  exact ⟨r, z, h1, h2, h3, (ha.sub hb).near h3⟩
theorem run_fadd {P : Program} (t : TypeId) {x y r : Nat} (h : Ieee.double.add x y = some r) (w : World) : (binOp .add t (.float .f64 x) (.float .f64 y)).run P w = .ok (.float .f64 r) w := run_float_arith w .add t .f64 x y r h
theorem run_fsub {P : Program} (t : TypeId) {x y r : Nat} (h : Ieee.double.sub x y = some r) (w : World) : (binOp .sub t (.float .f64 x) (.float .f64 y)).run P w = .ok (.float .f64 r) w := run_float_arith w .sub t .f64 x y r h
theorem run_fmul {P : Program} (t : TypeId) {x y r : Nat} (h : Ieee.double.mul x y = some r) (w : World) : (binOp .mul t (.float .f64 x) (.float .f64 y)).run P w = .ok (.float .f64 r) w := run_float_arith w .mul t .f64 x y r h
end Go.Proofs.Ytnclnbbnkfolgaa
