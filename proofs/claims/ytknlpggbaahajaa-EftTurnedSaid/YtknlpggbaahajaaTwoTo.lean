/- eft.twoTo: the word of a power of two. -/
import Derived.Test.YtknlpggbaahajaaTwoW
import Derived.Test.YtknlpggbaahajaaFop
import Derived.Test.YtknlpggbaahajaaAbs
namespace Go.Proofs.Ytknlpggbaahajaa
open Go.RowKit

theorem bits_1i (v : Int) : bits .and .i64 v 1 = v % 2 := by
  have h2 : (BitVec.ofInt 64 v).toNat = (v % 18446744073709551616).toNat := by rw [BitVec.toNat_ofInt]; rfl
  show IntKind.i64.wrap ((BitVec.ofInt 64 v &&& BitVec.ofInt 64 1).toNat : Int) = _
  have h3 : (BitVec.ofInt 64 1).toNat = 2 ^ 1 - 1 := by decide
  rw [BitVec.toNat_and, h2, h3, Nat.and_two_pow_sub_one_eq_mod, IntKind.wrap_i64]
  omega
/-- the state: i bits of n are done -/
structure TwInv (b : Bool) (n i k p q : Nat) : Prop where
  k : k = n / 2 ^ i
  p : p = Flt.tw b (n % 2 ^ i)
  q : q = Flt.tw b (2 ^ i)
theorem TwInv.start (b : Bool) (n : Nat) {q : Nat} (hq : q = Flt.tw b 1) : TwInv b n 0 n 4607182418800017408 q :=
  ⟨by simp, by rw [Nat.pow_zero, Nat.mod_one]; cases b <;> rfl, by rw [hq, Nat.pow_zero]⟩
theorem TwInv.lt {b : Bool} {n i k p q : Nat} (h : TwInv b n i k p q) (hn : n ≤ 1074) (hk : 0 < k) : i < 11 := by
  refine Classical.byContradiction fun hc => ?_
  have h1 : 2 ^ 11 ≤ 2 ^ i := Nat.pow_le_pow_right (by decide) (by omega)
  have h2 : (2 : Nat) ^ 11 = 2048 := rfl
  have : n / 2 ^ i = 0 := Nat.div_eq_of_lt (by omega)
  have := h.k
  omega
theorem TwInv.done {b : Bool} {n i k p q : Nat} (h : TwInv b n i k p q) (hk : k = 0) : p = Flt.tw b n := by
  have h1 := h.k
  rw [hk] at h1
  have hpos : 0 < 2 ^ i := Nat.pow_pos (by decide)
  have h2 : n < 2 ^ i := by
    refine Classical.byContradiction fun hc => ?_
    have := Nat.div_pos (show 2 ^ i ≤ n by omega) hpos
    omega
  rw [h.p, Nat.mod_eq_of_lt h2]
theorem TwInv.next {b : Bool} {n i k p q : Nat} (h : TwInv b n i k p q) (hn : n ≤ 1074) (hk : 0 < k) :
    ∃ q', Ieee.double.mul q q = some q' ∧ (k % 2 = 0 → TwInv b n (i + 1) (k / 2) p q') ∧ (k % 2 = 1 → ∃ p', Ieee.double.mul p q = some p' ∧ TwInv b n (i + 1) (k / 2) p' q') := by
  have hi := h.lt hn hk
  have hkk := h.k
  have e1 : n % 2 ^ (i + 1) = n % 2 ^ i + 2 ^ i * (k % 2) := by rw [Nat.pow_succ, Nat.mod_mul, ← hkk]
  have e2 : k / 2 = n / 2 ^ (i + 1) := by rw [hkk, Nat.div_div_eq_div_mul, Nat.pow_succ]
  refine ⟨Flt.tw b (2 ^ (i + 1)), by rw [h.q]; exact Flt.tw_sq b hi, fun h0 => ⟨e2, ?_, rfl⟩, fun h1 => ⟨Flt.tw b (n % 2 ^ i + 2 ^ i), ?_, ⟨e2, ?_, rfl⟩⟩⟩
  · rw [e1, h0, Nat.mul_zero, Nat.add_zero]; exact h.p
  · rw [h.p, h.q]
    refine Flt.tw_mul b hi (Nat.mod_lt _ (Nat.pow_pos (by decide))) ?_
    have := Nat.mod_le n (2 ^ (i + 1))
    rw [e1, h1, Nat.mul_one] at this
    omega
  · rw [e1, h1, Nat.mul_one]

set_option maxHeartbeats 2000000 in
theorem twoto_any (k : Int) (w : World) (h0 : -1074 ≤ k) (h1 : k ≤ 1074) :
    Calls Try.prog 31 #[.int .i64 k] w fun e w' => e = .returned (.float .f64 (Flt.twK k)) ∧ w = w' := by
  obtain ⟨n, hn⟩ : ∃ n, n = k.natAbs := ⟨_, rfl⟩
  obtain ⟨R, hR⟩ : ∃ R, R = Flt.twK k := ⟨_, rfl⟩
  rw [← hR]
  have hn2 : n ≤ 1074 := by omega
  by_cases hs : k < 0
  · have hK := Lib.hid (show R = Flt.tw true n by rw [hR]; unfold Flt.twK; rw [decide_eq_true hs, ← hn])
    have ek : -k = (n : Int) := by omega
    have hS := TwInv.start true n (q := 4602678819172646912) rfl
    clear hn h0 h1 hR
    go_enter Try.func31, Try.ntmps31
    go_wp2
    go_loop [0, 3, 4] (fun x y z => ∃ (i k p q : Nat), TwInv true n i k p q ∧ k ≤ 1074 ∧ x = .int .i64 (k : Int) ∧ y = .float .f64 p ∧ z = .float .f64 q) (fun x _ _ => (intOf x).toNat)
    case atStart => exact ⟨0, n, _, _, hS, hn2, by simp, rfl, rfl⟩
    case round =>
      obtain ⟨i, k', p, q, hI, hk, rfl, rfl, rfl⟩ := hrel
      by_cases hk0 : k' = 0
      · have hD := Lib.hid (hI.done hk0)
        subst hk0
        clear hI
        go_wp2
        go_ret
        exact ⟨ret_f64 (by rw [hD.out, hK.out]), rfl⟩
      · obtain ⟨q', hq, hE, hO⟩ := hI.next hn2 (by omega)
        have hpos : 0 < (k' : Int) := by omega
        have o1 := fun w => run_fmul (P := Try.prog) 22 hq w
        have eA : bits .and .i64 (k' : Int) 1 = ((k' % 2 : Nat) : Int) := by rw [bits_1i]; omega
        obtain ⟨m, hm⟩ : ∃ m, m = k' / 2 := ⟨_, rfl⟩
        rw [← hm] at hE hO
        have eH : (k' : Int) / 2 = (m : Int) := by omega
        have hm2 : m < k' := by omega
        clear hm
        rcases Nat.mod_two_eq_zero_or_one k' with c | c
        · have hN := Lib.hid (hE c)
          rw [c] at eA
          clear hI hq hE hO
          go_wp2
          go_round
          case rel => exact ⟨i + 1, m, p, q', hN.out, by omega, by simp, rfl, rfl⟩
          case measure => simp [intOf]; omega
        · obtain ⟨p', hp, hN⟩ := hO c
          have hN := Lib.hid hN
          have o2 := fun w => run_fmul (P := Try.prog) 22 hp w
          rw [c] at eA
          clear hI hq hE hO hp
          go_wp2
          go_round
          case rel => exact ⟨i + 1, m, p', q', hN.out, by omega, by simp, rfl, rfl⟩
          case measure => simp [intOf]; omega
  · have hK := Lib.hid (show R = Flt.tw false n by rw [hR]; unfold Flt.twK; rw [decide_eq_false hs, ← hn])
    have ek : k = (n : Int) := by omega
    have hS := TwInv.start false n (q := 4611686018427387904) rfl
    clear hn h0 h1 hR
    go_enter Try.func31, Try.ntmps31
    go_wp2
    go_loop [0, 3, 4] (fun x y z => ∃ (i k p q : Nat), TwInv false n i k p q ∧ k ≤ 1074 ∧ x = .int .i64 (k : Int) ∧ y = .float .f64 p ∧ z = .float .f64 q) (fun x _ _ => (intOf x).toNat)
    case atStart => exact ⟨0, n, _, _, hS, hn2, by simp, rfl, rfl⟩
    case round =>
      obtain ⟨i, k', p, q, hI, hk, rfl, rfl, rfl⟩ := hrel
      by_cases hk0 : k' = 0
      · have hD := Lib.hid (hI.done hk0)
        subst hk0
        clear hI
        go_wp2
        go_ret
        exact ⟨ret_f64 (by rw [hD.out, hK.out]), rfl⟩
      · obtain ⟨q', hq, hE, hO⟩ := hI.next hn2 (by omega)
        have hpos : 0 < (k' : Int) := by omega
        have o1 := fun w => run_fmul (P := Try.prog) 22 hq w
        have eA : bits .and .i64 (k' : Int) 1 = ((k' % 2 : Nat) : Int) := by rw [bits_1i]; omega
        obtain ⟨m, hm⟩ : ∃ m, m = k' / 2 := ⟨_, rfl⟩
        rw [← hm] at hE hO
        have eH : (k' : Int) / 2 = (m : Int) := by omega
        have hm2 : m < k' := by omega
        clear hm
        rcases Nat.mod_two_eq_zero_or_one k' with c | c
        · have hN := Lib.hid (hE c)
          rw [c] at eA
          clear hI hq hE hO
          go_wp2
          go_round
          case rel => exact ⟨i + 1, m, p, q', hN.out, by omega, by simp, rfl, rfl⟩
          case measure => simp [intOf]; omega
        · obtain ⟨p', hp, hN⟩ := hO c
          have hN := Lib.hid hN
          have o2 := fun w => run_fmul (P := Try.prog) 22 hp w
          rw [c] at eA
          clear hI hq hE hO hp
          go_wp2
          go_round
          case rel => exact ⟨i + 1, m, p', q', hN.out, by omega, by simp, rfl, rfl⟩
          case measure => simp [intOf]; omega
end Go.Proofs.Ytknlpggbaahajaa
