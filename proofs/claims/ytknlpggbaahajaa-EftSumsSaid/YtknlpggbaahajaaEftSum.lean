/- eft.Sum (a playground's). -/
import Derived.Test.YtknlpggbaahajaaProg
import Derived.Test.YtknlpggbaahajaaFop
import Derived.Test.YtknlpggbaahajaaFlt3
namespace Go.Proofs.Ytknlpggbaahajaa
open Go.RowKit

theorem ret_ff {a b c d : Nat} (h : a = b) (k : c = d) : Ending.returned (.tuple #[.float .f64 a, .float .f64 c]) = .returned (.tuple #[.float .f64 b, .float .f64 d]) := by rw [h, k]
theorem sum_run {x y s p q d1 d2 e : Nat} (w : World) (h1 : Ieee.double.add x y = some s) (h2 : Ieee.double.sub s x = some p) (h3 : Ieee.double.sub s p = some q) (h4 : Ieee.double.sub x q = some d1) (h5 : Ieee.double.sub y p = some d2) (h6 : Ieee.double.add d1 d2 = some e) :
    Calls Try.prog 10 #[.float .f64 x, .float .f64 y] w fun r w' => r = .returned (.tuple #[.float .f64 s, .float .f64 e]) ∧ w = w' := by
  have o1 := fun w => run_fadd (P := Try.prog) 22 h1 w
  have o2 := fun w => run_fsub (P := Try.prog) 22 h2 w
  have o3 := fun w => run_fsub (P := Try.prog) 22 h3 w
  have o4 := fun w => run_fsub (P := Try.prog) 22 h4 w
  have o5 := fun w => run_fsub (P := Try.prog) 22 h5 w
  have o6 := fun w => run_fadd (P := Try.prog) 22 h6 w
  clear h1 h2 h3 h4 h5 h6
  go_enter Try.func10, Try.ntmps10
  go_wp2
  go_ret2
  exact ⟨rfl, rfl⟩
set_option maxHeartbeats 1000000 in
theorem sum_any (x y : Nat) (a b : Int) (w : World) (hx : Flt.Num x a) (hy : Flt.Num y b) (ha : UpTo 1 a) (hb : UpTo 1 b) :
    Calls Try.prog 10 #[.float .f64 x, .float .f64 y] w fun r w' => ∃ s e σ ε, r = .returned (.tuple #[.float .f64 s, .float .f64 e]) ∧ Ieee.double.add x y = some s ∧ Flt.Num s σ ∧ Flt.Num e ε ∧ σ + ε = a + b ∧ Flt.Near (a + b) σ ∧ UpTo 4 σ ∧ UpTo 1024 ε ∧ w = w' := by
  obtain ⟨s, σ, h1, n1, r1, u1⟩ := fadd hx hy ha hb (by decide)
  obtain ⟨p, π, h2, n2, r2, u2⟩ := fsub n1 hx u1 ha (by decide)
  obtain ⟨q, κ, h3, n3, r3, u3⟩ := fsub n1 n2 u1 u2 (by decide)
  obtain ⟨d1, δ1, h4, n4, r4, u4⟩ := fsub hx n3 ha u3 (by decide)
  obtain ⟨d2, δ2, h5, n5, r5, u5⟩ := fsub hy n2 hb u2 (by decide)
  obtain ⟨e, ε, h6, n6, r6, u6⟩ := fadd n4 n5 u4 u5 (by decide)
  have hsum := Flt.two_sum hy.fl hx.fl (by rwa [Int.add_comm] at r1) r2 r3 r5 r4 (by rwa [Int.add_comm] at r6)
  exact (sum_run w h1 h2 h3 h4 h5 h6).mono fun r w' h => ⟨s, e, σ, ε, h.1, h1, n1, n6, by omega, r1, u1, Nat.le_trans u6 (Nat.mul_le_mul_right _ (by decide)), h.2⟩
end Go.Proofs.Ytknlpggbaahajaa
