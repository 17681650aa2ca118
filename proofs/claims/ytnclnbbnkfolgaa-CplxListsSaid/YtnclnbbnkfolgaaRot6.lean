/- Quarter turns, added up. -/
import Derived.Test.YtnclnbbnkfolgaaSaid6
namespace Go.Proofs.Ytnclnbbnkfolgaa
open Go.RowKit

def W64 (x : Nat) : Prop := x < 18446744073709551616
theorem neg_lt6 {x : Nat} (h : W64 x) : W64 (Op.negFloat .f64 x) := by
  unfold W64 at *
  rw [neg_eq x h]; split <;> omega
theorem neg_neg6 {x : Nat} (h : W64 x) : Op.negFloat .f64 (Op.negFloat .f64 x) = x := by
  have k := neg_lt6 h
  unfold W64 at *
  rw [neg_eq _ k, neg_eq x h]
  split <;> split <;> omega
theorem rot6_lt {x y : Nat} (hx : W64 x) (hy : W64 y) : ∀ n, W64 (rot6 x y n).1 ∧ W64 (rot6 x y n).2
  | 0 => ⟨hx, hy⟩
  | n + 1 => ⟨neg_lt6 (rot6_lt hx hy n).2, (rot6_lt hx hy n).1⟩
theorem rot6_add (x y m : Nat) : ∀ n, rot6 (rot6 x y m).1 (rot6 x y m).2 n = rot6 x y (m + n)
  | 0 => rfl
  | n + 1 => by
    show (Op.negFloat .f64 (rot6 (rot6 x y m).1 (rot6 x y m).2 n).2, (rot6 (rot6 x y m).1 (rot6 x y m).2 n).1) = (Op.negFloat .f64 (rot6 x y (m + n)).2, (rot6 x y (m + n)).1)
    rw [rot6_add x y m n]
theorem rot6_four {x y : Nat} (hx : W64 x) (hy : W64 y) : rot6 x y 4 = (x, y) := by
  show (Op.negFloat .f64 (Op.negFloat .f64 x), Op.negFloat .f64 (Op.negFloat .f64 y)) = (x, y)
  rw [neg_neg6 hx, neg_neg6 hy]
theorem rot6_mod {x y : Nat} (hx : W64 x) (hy : W64 y) (m n : Nat) (h : m % 4 = n % 4) : rot6 x y m = rot6 x y n := by
  have key : ∀ k a, rot6 x y (a + 4 * k) = rot6 x y a := by
    intro k a
    induction k with
    | zero => rfl
    | succ k ih =>
      have e : a + 4 * (k + 1) = (a + 4 * k) + 4 := by omega
      obtain ⟨h1, h2⟩ := rot6_lt hx hy (a + 4 * k)
      rw [e, ← rot6_add, rot6_four h1 h2, ih]
  have e1 := key (m / 4) (m % 4)
  have e2 := key (n / 4) (n % 4)
  rw [Nat.mod_add_div] at e1 e2
  rw [e1, e2, h]
theorem tmod_mod (q : Int) : (q.tmod 4) % 4 = q % 4 := by
  have h1 := Int.mul_tdiv_add_tmod q 4
  omega
theorem rot6_two {x y : Nat} (hx : W64 x) (hy : W64 y) (q p : Int) : rot6 (rot6 x y (quart6 (q.tmod 4))).1 (rot6 x y (quart6 (q.tmod 4))).2 (quart6 (p.tmod 4)) = rot6 x y (quart6 (q.tmod 4 + p.tmod 4)) := by
  rw [rot6_add]
  apply rot6_mod hx hy
  unfold quart6
  generalize q.tmod 4 = m
  generalize p.tmod 4 = n
  omega
/-- what the landed Turn is to answer -/
def TurnSaid6 : Prop := ∀ (x y : Nat) (q : Int) (w : World), W64 x → W64 y → -9223372036854775808 ≤ q ∧ q < 9223372036854775808 →
  Calls Try.prog 18 #[dv x y, .int .i64 q] w fun r w' => r = .returned (dv (rot6 x y (quart6 q)).1 (rot6 x y (quart6 q)).2) ∧ Bel w w'
end Go.Proofs.Ytnclnbbnkfolgaa
