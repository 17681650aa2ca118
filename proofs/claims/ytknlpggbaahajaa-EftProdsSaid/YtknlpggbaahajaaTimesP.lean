/- A product added in pieces of 27 bits: over whole numbers. No program is named here. -/
import Derived.Test.YtknlpggbaahajaaLong
import Derived.Test.YtknlpggbaahajaaPutF
namespace Go.Proofs.Ytknlpggbaahajaa
open Go.RowKit

theorem bits_27i (v : Int) : bits .and .i64 v 134217727 = v % 134217728 := by
  have h2 : (BitVec.ofInt 64 v).toNat = (v % 18446744073709551616).toNat := by rw [BitVec.toNat_ofInt]; rfl
  show IntKind.i64.wrap ((BitVec.ofInt 64 v &&& BitVec.ofInt 64 134217727).toNat : Int) = _
  have h3 : (BitVec.ofInt 64 134217727).toNat = 2 ^ 27 - 1 := by decide
  rw [BitVec.toNat_and, h2, h3, Nat.and_two_pow_sub_one_eq_mod, IntKind.wrap_i64]
  omega
/-- the sum so far: P times the lowest k pieces of N -/
structure PieceInv (P N : Nat) (sg : Int) (E : Nat) (v0 v : Int) (k : Nat) : Prop where
  eq : v = v0 + sg * ((P * (N % 2 ^ (27 * k)) : Nat) : Int) * 2 ^ E
theorem PieceInv.start (P N : Nat) (sg : Int) (E : Nat) (v0 : Int) : PieceInv P N sg E v0 v0 0 := ⟨by simp [Nat.mod_one]⟩
theorem PieceInv.next {P N : Nat} {sg : Int} {E : Nat} {v0 v : Int} {k : Nat} (h : PieceInv P N sg E v0 v k) {Q F : Nat} {v' a : Int} (hQ : Q = N / 2 ^ (27 * k) % 134217728) (hF : F = E + 27 * k) (ha : a = sg * ((P * Q : Nat) : Int)) (hv : v' = v + a * 2 ^ F) : PieceInv P N sg E v0 v' (k + 1) := by
  refine ⟨?_⟩
  have e1 : N % 2 ^ (27 * (k + 1)) = N % 2 ^ (27 * k) + Q * 2 ^ (27 * k) := by
    rw [show 27 * (k + 1) = 27 * k + 27 from by omega, Nat.pow_add, Nat.mod_mul, hQ]
    exact congrArg (N % 2 ^ (27 * k) + ·) (Nat.mul_comm _ _)
  have e2 : ((P * (Q * 2 ^ (27 * k)) : Nat) : Int) * 2 ^ E = ((P * Q : Nat) : Int) * 2 ^ F := by
    rw [hF, Int.pow_add, ← Nat.mul_assoc, Int.natCast_mul (P * Q), pw]
    ac_rfl
  rw [hv, h.eq, ha, e1, Nat.mul_add, Int.natCast_add, Int.mul_add, Int.add_mul, Int.add_assoc, Int.mul_assoc sg (((P * (Q * 2 ^ (27 * k)) : Nat) : Int)), e2, Int.mul_assoc sg ((P * Q : Nat) : Int)]
theorem PieceInv.done {P N : Nat} {sg : Int} {E : Nat} {v0 v : Int} {k : Nat} (h : PieceInv P N sg E v0 v k) (hN : N < 2 ^ (27 * k)) : v = v0 + sg * ((P * N : Nat) : Int) * 2 ^ E := by
  have := h.eq
  rwa [Nat.mod_eq_of_lt hN] at this
end Go.Proofs.Ytknlpggbaahajaa
