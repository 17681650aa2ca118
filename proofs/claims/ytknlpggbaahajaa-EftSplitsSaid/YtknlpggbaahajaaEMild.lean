/- eft.Mild: by the word without its sign. -/
import Derived.Test.YtknlpggbaahajaaAbs
import Derived.Test.YtknlpggbaahajaaRef3f
namespace Go.Proofs.Ytknlpggbaahajaa
open Go.RowKit

set_option maxHeartbeats 2000000 in
theorem emild_any (x : Nat) (w : World) (hx : x < 18446744073709551616) :
    Calls Try.prog 19 #[.float .f64 x] w fun e w' => e = .returned (.bool (mildB x)) ∧ w = w' := by
  have habs := fun w => abs_any x w hx
  obtain ⟨y, hy⟩ : ∃ y, y = x % 9223372036854775808 := ⟨_, rfl⟩
  have hB : mildB x = decide (y = 0 ∨ (2805742567851819008 ≤ y ∧ y ≤ 6408622269748215808)) := by unfold mildB; rw [← hy]
  rw [hB]
  have hy63 : y < 9223372036854775808 := by omega
  rw [← hy] at habs
  clear hB hy hx
  obtain ⟨R, hR⟩ : ∃ R, R = decide (y = 0 ∨ (2805742567851819008 ≤ y ∧ y ≤ 6408622269748215808)) := ⟨_, rfl⟩
  rw [← hR]
  rcases Flt.ord4 y 0 hy63 (by decide) with ⟨o0, k0⟩ | ⟨o0, k0⟩ | ⟨o0, k0, k0'⟩ | ⟨o0, k0⟩ <;>
  rcases Flt.ord4 y 2805742567851819008 hy63 (by decide) with ⟨o1, k1⟩ | ⟨o1, k1⟩ | ⟨o1, k1, k1'⟩ | ⟨o1, k1⟩ <;>
  rcases Flt.ord4 y 6408622269748215808 hy63 (by decide) with ⟨o2, k2⟩ | ⟨o2, k2⟩ | ⟨o2, k2, k2'⟩ | ⟨o2, k2⟩ <;>
  first
  | (exfalso; clear o0 o1 o2 hR habs; omega)
  | skip
  all_goals
    have o0 : FloatKind.f64.format.order y 0 = _ := o0
    have o1 : FloatKind.f64.format.order y 2805742567851819008 = _ := o1
    have o2 : FloatKind.f64.format.order y 6408622269748215808 = _ := o2
    first
    | (have hR' := Lib.hid (hR.trans (decide_eq_true (by clear o0 o1 o2 habs hR; omega)))
       clear hR k0 k1 k2 hy63
       go_enter Try.func19, Try.ntmps19
       go_wp2_with fail
       refine (habs _).mono ?_; rintro r w1 ⟨rfl, rfl⟩
       go_wp2
       go_ret
       exact ⟨ret_bool hR'.out.symm, rfl⟩)
    | (have hR' := Lib.hid (hR.trans (decide_eq_false (by clear o0 o1 o2 habs hR; omega)))
       clear hR k0 k1 k2 hy63
       go_enter Try.func19, Try.ntmps19
       go_wp2_with fail
       refine (habs _).mono ?_; rintro r w1 ⟨rfl, rfl⟩
       go_wp2
       go_ret
       exact ⟨ret_bool hR'.out.symm, rfl⟩)
end Go.Proofs.Ytknlpggbaahajaa
