/- A mild float made of any bits (layer 3's statements). -/
import Derived.Test.YtknlpggbaahajaaRef3f
import Derived.Laws.Cover2
namespace Go.Proofs.Ytknlpggbaahajaa
open Go.RowKit

theorem or_add3 (H L k : Nat) (hH : H * 2 ^ k < 18446744073709551616) (hL : L < 2 ^ k) (hk : k ≤ 63) : bits .or .u64 ((H * 2 ^ k : Nat) : Int) (L : Int) = ((H * 2 ^ k + L : Nat) : Int) := by
  have hp : (2 : Nat) ^ k ≤ 2 ^ 63 := Nat.pow_le_pow_right (by omega) hk
  rw [bits_or_u64_nat _ _ hH (by omega)]
  rw [Nat.mul_comm, Nat.two_pow_add_eq_or_of_lt hL]

/-- mild: 0, or from 2^-400 to below 2^400, in units of 2^-1074 -/
def mlo : Nat := 674
def mhi : Nat := 1474
def MildN (n : Int) : Prop := n = 0 ∨ (2 ^ mlo ≤ n.natAbs ∧ n.natAbs < 2 ^ mhi)
theorem pw_lo {X a j i k : Nat} (h : 2 ^ a ≤ X) (hj : j ≤ i) (hk : k = a + j) : 2 ^ k ≤ X * 2 ^ i := by
  rw [hk, Nat.pow_add]; exact Nat.mul_le_mul h (Nat.pow_le_pow_right (by decide) hj)
theorem pw_hi {X a j i k : Nat} (h : X < 2 ^ a) (hj : i ≤ j) (hk : k = a + j) : X * 2 ^ i < 2 ^ k := by
  have h1 : X * 2 ^ i < 2 ^ a * 2 ^ i := Nat.mul_lt_mul_of_pos_right h (Nat.pow_pos (by decide))
  rw [← Nat.pow_add] at h1
  rw [hk]
  exact Nat.lt_of_lt_of_le h1 (Nat.pow_le_pow_right (by decide) (by omega))
theorem mild_num {S e F : Nat} (hS : S ≤ 1) (he : 623 ≤ e) (he2 : e ≤ 1422) (hF : F < 4503599627370496) : Flt.Num (S * 9223372036854775808 + e * 4503599627370496 + F) (Flt.vI (S * 9223372036854775808 + e * 4503599627370496 + F)) ∧ MildN (Flt.vI (S * 9223372036854775808 + e * 4503599627370496 + F)) := by
  have h64 : (2 : Nat) ^ 64 = 18446744073709551616 := rfl
  obtain ⟨x, hx⟩ : ∃ x, x = S * 9223372036854775808 + e * 4503599627370496 + F := ⟨_, rfl⟩
  rw [← hx]
  have hn := Flt.num_of (x := x) (by omega) (by omega)
  refine ⟨hn, Or.inr ?_⟩
  have hp := num_parts hn
  obtain ⟨e1, e2⟩ := pE_pos (x := x) (by omega)
  have e3 : (pE x + 1074).toNat = e - 1 := by omega
  have e4 : (Flt.vI x).natAbs = pA x * 2 ^ (e - 1) := by rw [hp, e3, Int.natAbs_mul, Flt.natAbs_two, pM_abs]
  have e5 : pA x = 4503599627370496 + F := by omega
  rw [e4, e5]
  have q52 : (2 : Nat) ^ 52 = 4503599627370496 := rfl
  have q53 : (2 : Nat) ^ 53 = 9007199254740992 := rfl
  have l1 : 2 ^ 52 ≤ 4503599627370496 + F := by omega
  have l2 : 4503599627370496 + F < 2 ^ 53 := by omega
  exact ⟨pw_lo (a := 52) (j := 622) l1 (by omega) rfl, pw_hi (a := 53) (j := 1421) l2 (by omega) rfl⟩

/-- the bits that mild makes -/
theorem mild_bits {u S e F : Nat} (hu : u < 18446744073709551616) (hS : S = u / 9223372036854775808) (he : e = u * 2 % 18446744073709551616 / 9007199254740992 % 800 + 623) (hF : F = u % 4503599627370496) :
    bits .or .u64 (bits .or .u64 ((u : Int) / 9223372036854775808 * 9223372036854775808) (IntKind.u64.wrap (IntKind.u64.wrap (IntKind.u64.wrap ((IntKind.u64.wrap ((u : Int) * 2) / 9007199254740992).tmod 800 + 1023) - 400) * 4503599627370496))) (IntKind.u64.wrap ((u : Int) * 4096) / 4096)
      = ((S * 9223372036854775808 + e * 4503599627370496 + F : Nat) : Int) := by
  have g1 : (u : Int) / 9223372036854775808 * 9223372036854775808 = ((S * 2 ^ 63 : Nat) : Int) := by
    have : (2 : Nat) ^ 63 = 9223372036854775808 := rfl
    rw [this]; omega
  have g2 : IntKind.u64.wrap (IntKind.u64.wrap (IntKind.u64.wrap ((IntKind.u64.wrap ((u : Int) * 2) / 9007199254740992).tmod 800 + 1023) - 400) * 4503599627370496) = ((e * 4503599627370496 : Nat) : Int) := by
    have h1 : IntKind.u64.wrap ((u : Int) * 2) / 9007199254740992 = ((u * 2 % 18446744073709551616 / 9007199254740992 : Nat) : Int) := by rw [IntKind.wrap_u64]; omega
    rw [h1, Int.tmod_eq_emod_of_nonneg (by omega), IntKind.wrap_u64, IntKind.wrap_u64, IntKind.wrap_u64]
    omega
  have g3 : IntKind.u64.wrap ((u : Int) * 4096) / 4096 = (F : Int) := by rw [IntKind.wrap_u64]; omega
  have p63 : (2 : Nat) ^ 63 = 9223372036854775808 := rfl
  have p52 : (2 : Nat) ^ 52 = 4503599627370496 := rfl
  rw [g1, g2, g3, or_add3 S (e * 4503599627370496) 63 (by rw [p63]; omega) (by rw [p63]; omega) (by decide)]
  have g4 : S * 2 ^ 63 + e * 4503599627370496 = (S * 2048 + e) * 2 ^ 52 := by rw [p63, p52]; omega
  rw [g4, or_add3 (S * 2048 + e) F 52 (by rw [p52]; omega) (by rw [p52]; omega) (by decide), ← g4, p63]

theorem mild_full (b : Int) (w : World) :
    Calls Try.prog 9 #[.int .i64 b] w fun r w' => ∃ x n, r = .returned (.float .f64 x) ∧ Flt.Num x n ∧ MildN n ∧ mildB x = true ∧ w = w' := by
  obtain ⟨u, hu⟩ : ∃ u : Nat, u = (IntKind.u64.wrap b).toNat := ⟨_, rfl⟩
  have eU : IntKind.u64.wrap b = (u : Int) := by rw [hu, IntKind.wrap_u64]; omega
  have u64 : u < 18446744073709551616 := by rw [hu, IntKind.wrap_u64]; omega
  obtain ⟨T, hT⟩ : ∃ T : Int, T = IntKind.u64.wrap ((u : Int) * 2) := ⟨_, rfl⟩
  have hT2 : T = ((u * 2 % 18446744073709551616 : Nat) : Int) := by rw [hT, IntKind.wrap_u64]; omega
  have T0 : 0 ≤ T := by omega
  have T1 : T < 18446744073709551616 := by omega
  have hr1 := run_frombits (u : Int) w
  by_cases hz : T = 0
  · have hN : Flt.Num u (Flt.vI u) := Flt.num_of (by have : (2 : Nat) ^ 64 = 18446744073709551616 := rfl
                                                     omega) (by omega)
    have hv : Flt.vI u = 0 := by
      have hp := num_parts hN
      obtain ⟨_, e2⟩ := pE_zero (x := u) (by omega)
      have : pM u = 0 := by have := pM_abs u; omega
      rw [hp, this, Int.zero_mul]
    have t1 : (T == 0) = true := by rw [beq_iff_eq]; exact hz
    have hMB := Lib.hid (show mildB u = true from decide_eq_true (Or.inl (by omega)))
    have hT := Lib.hid hT
    have hN := Lib.hid (hv ▸ hN)
    clear hv hu hT2
    go_enter Try.func9, Try.ntmps9
    rw [hT.out] at t1
    go_wp2
    go_ret
    exact ⟨u, 0, by simp, hN.out, Or.inl rfl, hMB.out, rfl⟩
  · obtain ⟨S, hS⟩ : ∃ S : Nat, S = u / 9223372036854775808 := ⟨_, rfl⟩
    obtain ⟨e, he⟩ : ∃ e : Nat, e = u * 2 % 18446744073709551616 / 9007199254740992 % 800 + 623 := ⟨_, rfl⟩
    obtain ⟨F, hF⟩ : ∃ F : Nat, F = u % 4503599627370496 := ⟨_, rfl⟩
    have t1 : (T == 0) = false := by rw [beq_eq_false_iff_ne]; exact hz
    rw [hT] at t1
    obtain ⟨k1, k2⟩ := mild_num (S := S) (e := e) (F := F) (by omega) (by omega) (by omega) (by omega)
    have hbig := mild_bits u64 hS he hF
    obtain ⟨X, hX⟩ : ∃ X, X = S * 9223372036854775808 + e * 4503599627370496 + F := ⟨_, rfl⟩
    rw [← hX] at k1 k2 hbig
    have hMB := Lib.hid (show mildB X = true from decide_eq_true (Or.inr (by omega)))
    have hr2 := run_frombits (X : Int) w
    have k1 := Lib.hid k1
    have k2 := Lib.hid k2
    clear hz T0 T1 hT2 hT hr1 hu hS he hF hX
    go_enter Try.func9, Try.ntmps9
    go_wp2
    go_ret
    exact ⟨X, _, by simp, k1.out, k2.out, hMB.out, rfl⟩
theorem mild_any (b : Int) (w : World) :
    Calls Try.prog 9 #[.int .i64 b] w fun r w' => ∃ x n, r = .returned (.float .f64 x) ∧ Flt.Num x n ∧ MildN n ∧ w = w' :=
  (mild_full b w).mono fun _ _ ⟨x, n, h1, h2, h3, _, h5⟩ => ⟨x, n, h1, h2, h3, h5⟩
end Go.Proofs.Ytknlpggbaahajaa
