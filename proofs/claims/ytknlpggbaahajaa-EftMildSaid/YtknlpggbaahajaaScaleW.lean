/- eft.Scale(3, -1076), which the document fixes. -/
import Derived.Test.YtknlpggbaahajaaTwoTo
namespace Go.Proofs.Ytknlpggbaahajaa
open Go.RowKit

/-- 3 times 2^-1000 -/
def sc1 : Nat := 110338190870577152
theorem sc_mul1 : Ieee.double.mul 4613937818241073152 103582791429521408 = some sc1 := by decide +kernel
theorem sc_mul2 : Ieee.double.mul sc1 (Flt.twK (-76)) = some 1 := by decide +kernel
set_option maxHeartbeats 1000000 in
theorem scale_wake (w : World) :
    Calls Try.prog 25 #[.float .f64 4613937818241073152, .int .i64 (-1076)] w fun e w' => e = .returned (.float .f64 1) ∧ w = w' := by
  obtain ⟨m, hm⟩ : ∃ m, m = sc1 := ⟨_, rfl⟩
  obtain ⟨t, ht⟩ : ∃ t, t = Flt.twK (-76) := ⟨_, rfl⟩
  have o1 := fun w => run_fmul (P := Try.prog) 22 sc_mul1 w
  have o2 := fun w => run_fmul (P := Try.prog) 22 sc_mul2 w
  rw [← hm] at o1 o2
  rw [← ht] at o2
  have htt := fun w => twoto_any (-76) w (by decide) (by decide)
  rw [← ht] at htt
  have habs := fun w => abs_any 4613937818241073152 w (by decide)
  rw [show 4613937818241073152 % 9223372036854775808 = 4613937818241073152 from rfl] at habs
  have o3 : FloatKind.f64.format.order 4613937818241073152 4607182418800017408 = some .gt := by decide +kernel
  clear hm
  clear ht
  go_enter Try.func25, Try.ntmps25
  go_wp2
  go_loop [0, 1] (fun x y => x = .float .f64 4613937818241073152 ∧ y = .int .i64 (-1076)) (fun _ _ => 0)
  case atStart => exact ⟨rfl, rfl⟩
  case round =>
    obtain ⟨rfl, rfl⟩ := hrel
    go_wp2
    go_loop [0, 1] (fun x y => x = .float .f64 4613937818241073152 ∧ y = .int .i64 (-1076) ∨ x = .float .f64 m ∧ y = .int .i64 (-76)) (fun _ y => (-76 - intOf y).toNat)
    case atStart => exact Or.inl ⟨rfl, rfl⟩
    case round =>
      rcases hrel with ⟨rfl, rfl⟩ | ⟨rfl, rfl⟩
      · go_wp2_with fail
        refine (habs _).mono ?_; rintro r w1 ⟨rfl, rfl⟩
        go_wp2
        go_round
        case rel => exact Or.inr ⟨rfl, by simp⟩
        case measure => simp [intOf]
      · go_wp2_with fail
        refine (htt _).mono ?_; rintro r w1 ⟨rfl, rfl⟩
        go_wp2
        go_ret
        exact ⟨rfl, rfl⟩
end Go.Proofs.Ytknlpggbaahajaa
