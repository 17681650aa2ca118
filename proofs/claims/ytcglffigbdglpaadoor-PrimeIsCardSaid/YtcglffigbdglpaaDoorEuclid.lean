/- mod.euclid: the greatest common divisor, and a factor beside it. -/
import Derived.Test.YtcglffigbdglpaaDoorProg
import Derived.Test.YtcglffigbdglpaaDoorMath
import Derived.Test.YtcglffigbdglpaaDoorBase
import Derived.Deep.LoopGhost
import Derived.Deep.QuietTactic
import Derived.BigQuiet
namespace Go.Proofs.YtcglffigbdglpaaDoor
open Go.RowKit

/-- Euclid's pairs in arrays: the greatest common divisor, and a factor beside it. -/
theorem euclid_any (x y : Int) (w : World) (x0 : 0 ≤ x) (x1 : x ≤ 9223372036854775807) (y0 : 0 ≤ y) (y1 : y ≤ 9223372036854775807) :
    Calls Tryd.prog 33 #[.agg #[.int .i64 x, .int .i64 y]] w fun e w' => (∃ f k : Int, e = .returned (.tuple #[.int .i64 (Int.gcd x y : Int), .int .i64 f]) ∧ (Int.gcd x y : Int) = f * y + k * x ∧ -9223372036854775807 ≤ f ∧ f ≤ 9223372036854775807) ∧ Bel w w' := by
  have hS := Dia.EuInv.start x0 y0
  go_enter Tryd.func33, Tryd.ntmps33
  go_wp2
  go_loopg [5] y.toNat (fun g _ wr => ∃ p0 p1 f0 f1 : Int, Dia.EuInv x y p0 p1 f0 f1 ∧ p0 ≤ 9223372036854775807 ∧ p1 ≤ 9223372036854775807 ∧ g = p1.toNat ∧ wr = (w.alloc (Obj.cells #[Value.int IntKind.i64 p0, Value.int IntKind.i64 p1] 40)).alloc (Obj.cells #[Value.int IntKind.i64 f0, Value.int IntKind.i64 f1] 40))
  case atStart => exact ⟨_, _, _, _, hS, x1, y1, rfl, rfl⟩
  case round =>
    obtain ⟨p0, p1, f0, f1, hI, b0, b1, rfl, rfl⟩ := hrel
    have i0 := hI.a0
    have i1 := hI.a1
    obtain ⟨j0, j1⟩ := hI.b0
    obtain ⟨l0, l1⟩ := hI.b1
    by_cases hp : p1 = 0
    · subst hp
      obtain ⟨k, hk⟩ := hI.c0
      have hg := hI.gcd
      subst hg
      have HK := Lib.hid hk; clear hk
      go_wp2
      go_quiet (fail)
      go_wp2
      go_ret2
      exact ⟨⟨f0, k, rfl, HK.out, j0, j1⟩, (((Bel.refl _).alloc _).alloc _).drewN _⟩
    · obtain ⟨q0, q1, m0, m1, r0, r1, ⟨n0, n0'⟩, ⟨n1, n1'⟩, hN⟩ := hI.step x1 (by omega)
      have t1 : (p1 == 0) = false := by rw [beq_eq_false_iff_ne]; exact hp
      have t2 : (p1 != 0) = true := by rw [bne_iff_ne]; exact hp
      have p1p : 0 < p1 := by omega
      clear hp
      go_wp2
      go_roundg (p0 - p0 / p1 * p1).toNat
      case measure => omega
      case rel => exact ⟨_, _, _, _, hN, by omega, by omega, rfl, rfl⟩

end Go.Proofs.YtcglffigbdglpaaDoor
