/- What the document fixes of layer 3. -/
import Derived.Test.YtknlpggbaahajaaEftSum
import Derived.Test.YtknlpggbaahajaaETop
import Derived.Test.YtknlpggbaahajaaEMild
import Derived.Test.YtknlpggbaahajaaScaleW
namespace Go.Proofs.Ytknlpggbaahajaa
open Go.RowKit

theorem sum_wake (w : World) :
    Calls Try.prog 10 #[.float .f64 4607182418800017408, .float .f64 4336966441157787648] w fun r w' => r = .returned (.tuple #[.float .f64 4607182418800017408, .float .f64 4336966441157787648]) ∧ w = w' :=
  sum_run (p := 0) (q := 4607182418800017408) (d1 := 0) (d2 := 4336966441157787648) w (by decide +kernel) (by decide +kernel) (by decide +kernel) (by decide +kernel) (by decide +kernel) (by decide +kernel)
theorem top_wake : Flt.IsTop (Flt.gm [4613937818241073152, 13839561654909534208]) 3 := by
  refine ⟨by decide, by decide, by decide +kernel, fun j h1 h2 => ?_⟩
  have h := Flt.twK_mono h1 (show j ≤ 2 by omega) (by decide)
  have e : Flt.twK 2 = Flt.gm [4613937818241073152, 13839561654909534208] := by decide +kernel
  omega
theorem fins_wake : Flt.Fins [4613937818241073152, 13839561654909534208] := by
  intro x hx
  simp only [List.mem_cons, List.not_mem_nil, or_false] at hx
  rcases hx with rfl | rfl <;> decide
set_option maxHeartbeats 2000000 in
theorem wakes_any (w : World) :
    Calls Try.prog 11 #[] w fun e w' => e = .returned (.bool true) ∧ Bel w w' := by
  have o1 : FloatKind.f64.format.order 4607182418800017408 4607182418800017408 = some .eq := by decide +kernel
  have o2 : FloatKind.f64.format.order 4336966441157787648 4336966441157787648 = some .eq := by decide +kernel
  have o3 : FloatKind.f64.format.order 1 1 = some .eq := by decide +kernel
  have m1 : mildB 6408622269748215808 = true := by decide +kernel
  have m2 : mildB 6413125869375586304 = false := by decide +kernel
  go_enter Try.func11, Try.ntmps11
  go_wp2_with fail
  refine (sum_wake _).mono ?_; rintro e w1 ⟨rfl, rfl⟩
  go_wp2_with fail
  refine (top_any _ [4613937818241073152, 13839561654909534208] _ ?_ ?_).mono ?_
  · refine ⟨Or.inr ⟨w.heap.size, 2, rfl, by decide, by decide, fun i x hx => ?_⟩⟩
    rw [World.cell?_alloc_new]
    match i, hx with
    | 0, hx => cases hx; rfl
    | 1, hx => cases hx; rfl
  · intro x hx; simp only [List.mem_cons, List.not_mem_nil, or_false] at hx; rcases hx with rfl | rfl <;> decide
  rintro e w2 ⟨hT, rfl⟩
  rcases hT with ⟨k, rfl, hF, hK⟩ | ⟨_, hF⟩
  rotate_left
  · exact absurd fins_wake hF
  obtain rfl : k = 3 := hK.unique top_wake
  clear hF hK
  go_wp2_with fail
  refine (scale_wake _).mono ?_; rintro e w3 ⟨rfl, rfl⟩
  go_wp2_with fail
  refine (emild_any _ _ (by decide)).mono ?_; rintro e w4 ⟨rfl, rfl⟩
  rw [m1]
  go_wp2_with fail
  refine (emild_any _ _ (by decide)).mono ?_; rintro e w5 ⟨rfl, rfl⟩
  rw [m2]
  go_wp2
  go_ret
  refine ⟨rfl, ?_⟩
  exact (Bel.refl w).alloc _
end Go.Proofs.Ytknlpggbaahajaa
