/- The reference's Power, of every exponent of a float (layer 3). -/
import Derived.Test.YtknlpggbaahajaaRef3e
import Derived.Test.YtknlpggbaahajaaTopP
namespace Go.Proofs.Ytknlpggbaahajaa
open Go.RowKit

theorem power_any (k : Int) (w : World) (h1 : -1074 ≤ k) (h2 : k ≤ 1023) :
    Calls Try.prog 30 #[.int .i64 k] w fun e w' => e = .returned (.float .f64 (Flt.twK k)) ∧ w = w' := by
  by_cases c : -1022 ≤ k
  · have e : Flt.twK k = ((k + 1023) * 4503599627370496).toNat := by
      unfold Flt.twK Flt.tw
      by_cases d : k < 0
      · rw [decide_eq_true d]
        simp only
        rw [if_pos (by omega)]
        omega
      · rw [decide_eq_false d]
        simp only
        rw [if_pos (by omega)]
        omega
    rw [e]
    exact power_norm k w c h2
  · obtain ⟨n, hn⟩ : ∃ n : Nat, k + 1074 = (n : Int) := ⟨(k + 1074).toNat, by omega⟩
    have n51 : n ≤ 51 := by omega
    have e : Flt.twK k = 2 ^ n := by
      unfold Flt.twK Flt.tw
      rw [decide_eq_true (show k < 0 by omega)]
      simp only
      rw [if_neg (by omega), if_pos (by omega)]
      congr 1; omega
    have hp : 2 ^ n ≤ 2 ^ 51 := Nat.pow_le_pow_right (by decide) n51
    have e51 : (2 : Nat) ^ 51 = 2251799813685248 := rfl
    obtain ⟨R, hR⟩ : ∃ R, R = 2 ^ n := ⟨_, rfl⟩
    have eR : IntKind.u64.wrap ((2 : Int) ^ n) = (R : Int) := by
      have : (2 : Int) ^ n = ((2 ^ n : Nat) : Int) := by rw [Int.natCast_pow]; rfl
      rw [this, ← hR, IntKind.wrap_u64]
      omega
    have hr := fun w => run_frombits (R : Int) w
    rw [e, ← hR]
    clear hR hp e e51
    go_enter Try.func30, Try.ntmps30
    go_wp2
    go_ret
    exact ⟨by simp, rfl⟩
end Go.Proofs.Ytknlpggbaahajaa
