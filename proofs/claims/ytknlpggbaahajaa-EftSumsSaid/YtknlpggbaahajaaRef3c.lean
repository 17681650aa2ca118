/- The reference's Add and Zero (layer 3). -/
import Derived.Test.YtknlpggbaahajaaRef3b
namespace Go.Proofs.Ytknlpggbaahajaa
open Go.RowKit

theorem pA_small (x : Nat) : (pM x).natAbs < 4611686018427387904 ∧ (pM x).natAbs < 1237940039285380274899124224 := by
  have := pA_lt x
  rw [pM_abs]; omega
/-- a finite float is added: in units of 2^-1200 -/
theorem add_any (g : Nat) (f : Nat → Int) (x : Nat) (n : Int) (w : World) (hx : Flt.Num x n) (hf : LongAt w g f) (hb : ∀ i, (f i).natAbs ≤ 1152921504606846976) :
    Calls Try.prog 13 #[.pointer (some ⟨g, 0, none⟩), .float .f64 x] w fun r w' => r = .returned (.tuple #[]) ∧ ∃ f', LongAt w' g f' ∧ lval f' = lval f + n * 2 ^ 126 ∧ (∀ j, (f' j - f j).natAbs ≤ 3221225472) ∧ Below g w w' := by
  have hp := num_parts hx
  have h1 := pE_ge x
  have h2 := pE_le hx.fin
  obtain ⟨h3, h4⟩ := pA_small x
  have hval := Lib.hid (show pM x * 2 ^ (pE x + 1200).toNat = n * 2 ^ 126 from by
    rw [hp, show (pE x + 1200).toNat = (pE x + 1074).toNat + 126 from by omega, Int.pow_add, Int.mul_assoc])
  clear hp
  go_enter Try.func13, Try.ntmps13
  go_wp2_with fail
  refine (parts_any x _).mono ?_; rintro r w1 ⟨rfl, rfl⟩
  go_wp2_with fail
  refine (put_any g f (pM x) (pE x) _ hf h4 h3 (by omega) (by omega) hb).mono ?_; rintro r w1 ⟨rfl, f', k1, k2, k3, k4⟩
  have k2 := Lib.hid k2
  go_wp2
  go_end0
  exact ⟨rfl, f', k1, by rw [k2.out, hval.out], k3, k4⟩

theorem bits_30i (v : Int) : bits .and .i64 v 1073741823 = v % 1073741824 := by
  have h2 : (BitVec.ofInt 64 v).toNat = (v % 18446744073709551616).toNat := by rw [BitVec.toNat_ofInt]; rfl
  show IntKind.i64.wrap ((BitVec.ofInt 64 v &&& BitVec.ofInt 64 1073741823).toNat : Int) = _
  have h3 : (BitVec.ofInt 64 1073741823).toNat = 2 ^ 30 - 1 := by decide
  rw [BitVec.toNat_and, h2, h3, Nat.and_two_pow_sub_one_eq_mod, IntKind.wrap_i64]
  omega
theorem lsum_tail (f : Nat → Int) (k : Nat) : ∀ n, k ≤ n → ∃ t, lsum f n = lsum f k + t * 2 ^ (30 * k)
  | 0, h => ⟨0, by have : k = 0 := by omega
                   subst this; simp⟩
  | n + 1, h => by
    by_cases c : k = n + 1
    · exact ⟨0, by rw [c]; simp⟩
    · obtain ⟨t, ht⟩ := lsum_tail f k n (by omega)
      refine ⟨t + f n * 2 ^ (30 * (n - k)), ?_⟩
      show lsum f n + f n * 2 ^ (30 * n) = _
      rw [ht, Int.add_mul, Int.mul_assoc (f n), ← Int.pow_add, show 30 * (n - k) + 30 * k = 30 * n from by omega, Int.add_assoc]
/-- the carry -/
structure ZInv (f : Nat → Int) (i : Nat) (c : Int) : Prop where
  eq : lsum f i = c * 2 ^ (30 * i)
theorem ZInv.next {f : Nat → Int} {i : Nat} {c : Int} (h : ZInv f i c) (hm : (f i + c) % 1073741824 = 0) : ZInv f (i + 1) ((f i + c) / 1073741824) := by
  refine ⟨?_⟩
  show lsum f i + f i * 2 ^ (30 * i) = _
  have h1 : f i + c = (f i + c) / 1073741824 * 1073741824 := by omega
  rw [h.eq, ← Int.add_mul, Int.add_comm c, show 30 * (i + 1) = 30 + 30 * i from by omega, Int.pow_add, ← Int.mul_assoc]
  exact congrArg (· * (2 : Int) ^ (30 * i)) h1
theorem ZInv.no {f : Nat → Int} {i : Nat} {c : Int} (h : ZInv f i c) (hi : i < 110) (hm : (f i + c) % 1073741824 ≠ 0) : lval f ≠ 0 := by
  intro hz
  obtain ⟨t, ht⟩ := lsum_tail f (i + 1) 110 (by omega)
  have h1 : lsum f (i + 1) = (f i + c) * 2 ^ (30 * i) := by
    show lsum f i + f i * 2 ^ (30 * i) = _
    rw [h.eq, ← Int.add_mul, Int.add_comm c]
  have hz' : lsum f 110 = 0 := by rw [← lval_eq]; exact hz
  rw [ht, h1, show 30 * (i + 1) = 30 + 30 * i from by omega, Int.pow_add, ← Int.mul_assoc, ← Int.add_mul] at hz'
  rcases Int.mul_eq_zero.1 hz' with h2 | h2
  · have e30 : (2 : Int) ^ 30 = 1073741824 := rfl
    rw [e30] at h2
    omega
  · exact absurd h2 (Int.ne_of_gt (Int.pow_pos (by decide)))
theorem ZInv.done {f : Nat → Int} {c : Int} (h : ZInv f 110 c) : decide (lval f = 0) = (c == 0) := by
  have e : lval f = c * 2 ^ (30 * 110) := by rw [lval_eq]; exact h.eq
  by_cases hc : c = 0
  · subst hc
    exact decide_eq_true (by rw [e, Int.zero_mul])
  · have h1 : lval f ≠ 0 := by
      rw [e]
      intro hz
      rcases Int.mul_eq_zero.1 hz with h2 | h2
      · exact hc h2
      · exact absurd h2 (Int.ne_of_gt (Int.pow_pos (by decide)))
    rw [decide_eq_false h1]; symm; rw [beq_eq_false_iff_ne]; exact hc

set_option maxHeartbeats 1000000 in
theorem zero_any (g : Nat) (f : Nat → Int) (w : World) (hf : LongAt w g f) (hb : ∀ i, (f i).natAbs ≤ 2305843009213693952) :
    Calls Try.prog 14 #[.pointer (some ⟨g, 0, none⟩)] w fun r w' => r = .returned (.bool (decide (lval f = 0))) ∧ w = w' := by
  obtain ⟨D, hDD⟩ : ∃ D : Bool, D = decide (lval f = 0) := ⟨_, rfl⟩
  rw [← hDD]
  have hDD := Lib.hid hDD
  go_enter Try.func14, Try.ntmps14
  go_wp2
  go_loop [3, 4] (fun x y => ∃ (c : Int) (i : Nat), ZInv f i c ∧ i ≤ 110 ∧ c.natAbs ≤ 4294967296 ∧ x = .int .i64 c ∧ y = .int .i64 (i : Int)) (fun _ y => (110 - intOf y).toNat)
  case atStart => exact ⟨0, 0, ⟨by simp [lsum]⟩, by omega, by simp, rfl, rfl⟩
  case round =>
    obtain ⟨c, i, hI, hi, hc, rfl, rfl⟩ := hrel
    by_cases hlt : i < 110
    · obtain ⟨c1, z1⟩ := hf i hlt
      obtain ⟨v, hv⟩ : ∃ v : Int, v = f i := ⟨_, rfl⟩
      have bv := hb i
      rw [← hv] at c1 bv
      have eA : bits .and .i64 (v + c) 1073741823 = (v + c) % 1073741824 := bits_30i _
      by_cases hm : (v + c) % 1073741824 = 0
      · have hN := Lib.hid (hI.next (by rw [← hv]; exact hm))
        rw [← hv] at hN
        have t1 : (bits .and .i64 (v + c) 1073741823 != 0) = false := by rw [eA, bne_eq_false_iff_eq]; exact hm
        clear eA hv hI hm
        go_wp2
        go_round
        case rel => exact ⟨_, i + 1, hN.out, by omega, by omega, rfl, by simp⟩
        case measure => simp [intOf]; omega
      · have hN := Lib.hid (hDD.out.trans (decide_eq_false (hI.no hlt (by rw [← hv]; exact hm))))
        obtain ⟨B, hB⟩ : ∃ B : Int, B = (v + c) % 1073741824 := ⟨_, rfl⟩
        have eB : bits .and .i64 (v + c) 1073741823 = B := by rw [eA, hB]
        have t1 : (B != 0) = true := by rw [bne_iff_ne, hB]; exact hm
        clear eA hv hI hm hB
        go_wp2
        go_ret
        exact ⟨ret_bool (hN.out.symm.trans hDD.out), rfl⟩
    · have h110 : i = 110 := by omega
      subst h110
      have hD := Lib.hid (hDD.out.trans hI.done)
      clear hI
      go_wp2
      go_ret
      exact ⟨ret_bool (hD.out.symm.trans hDD.out), rfl⟩
end Go.Proofs.Ytknlpggbaahajaa
