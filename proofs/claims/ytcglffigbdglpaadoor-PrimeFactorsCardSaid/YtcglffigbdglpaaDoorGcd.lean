/- mod.Gcd is the document's greatest common divisor. -/
import Derived.Test.YtcglffigbdglpaaDoorSpec1
import Derived.Test.YtcglffigbdglpaaDoorEuclid
namespace Go.Proofs.YtcglffigbdglpaaDoor
open Go.RowKit

theorem gcd_any (a b : Int) (w : World) (a1 : a ≤ 9223372036854775807) (b1 : b ≤ 9223372036854775807) :
    Calls Tryd.prog 26 #[.int .i64 a, .int .i64 b] w fun e w' => e = .returned (.int .i64 (gcdS a b)) ∧ Bel w w' := by
  by_cases ha : 0 ≤ a
  · by_cases hb : 0 ≤ b
    · rw [gcdS_yes ha hb]
      have ha' : ¬ a < 0 := by omega
      have hb' : ¬ b < 0 := by omega
      go_enter Tryd.func26, Tryd.ntmps26
      go_wp2_with fail
      refine (euclid_any a b _ ha a1 hb b1).mono ?_; rintro e w1 ⟨⟨f, k, rfl, he, f0, f1⟩, hg⟩
      clear he
      go_wp2
      go_ret
      exact ⟨rfl, hg⟩
    · rw [gcdS_no (by omega)]
      have ha' : ¬ a < 0 := by omega
      have hb' : b < 0 := by omega
      go_enter Tryd.func26, Tryd.ntmps26
      go_wp2
      go_ret
      exact ⟨rfl, Bel.refl _⟩
  · rw [gcdS_no (by omega)]
    have ha' : a < 0 := by omega
    go_enter Tryd.func26, Tryd.ntmps26
    go_wp2
    go_ret
    exact ⟨rfl, Bel.refl _⟩

end Go.Proofs.YtcglffigbdglpaaDoor
