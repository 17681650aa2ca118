/- The two halves of a float over its last place; halves have few bits. No program is named here. -/
import Derived.Test.YtknlpggbaahajaaFlt3
namespace Flt

/-- fewer than 28 bits, times a power of two -/
def FewI (n : Int) : Prop := ∃ (m : Int) (e : Nat), n = m * 2 ^ e ∧ m.natAbs < 2 ^ 27

theorem Halves.units {X hi lo : Int} {e : Nat} (h : Halves X e hi lo) (hd : (2 : Int) ^ e ∣ X) (hge : 2 ^ (52 + e) ≤ X.natAbs) (hlt : X.natAbs < 2 ^ (53 + e)) :
    ∃ A H L : Int, X = A * 2 ^ e ∧ hi = H * 2 ^ e ∧ lo = L * 2 ^ e ∧ HalvesU A H L := by
  have hU : 0 < 2 ^ e := Nat.pow_pos (by decide)
  have hUi := two_pos e
  obtain ⟨A, rfl⟩ := hd
  obtain ⟨L, hL⟩ := h.lo_dvd
  have hdh : (2 : Int) ^ e ∣ hi := by
    rcases h.hi_or with ⟨h1, _⟩ | ⟨h1, _⟩ <;> exact two_dvd_of_le (by omega) h1
  obtain ⟨H, hH⟩ := hdh
  have nA : ((2 : Int) ^ e * A).natAbs = A.natAbs * 2 ^ e := by rw [Int.mul_comm, shift_abs]
  have nH : hi.natAbs = H.natAbs * 2 ^ e := by rw [hH, Int.mul_comm, shift_abs]
  have nL : lo.natAbs = L.natAbs * 2 ^ e := by rw [hL, Int.mul_comm, shift_abs]
  have can {j : Nat} {x y : Int} (hx : y = 2 ^ e * x) (hdv : (2 : Int) ^ (j + e) ∣ y) : (2 : Int) ^ j ∣ x := by
    obtain ⟨k, hk⟩ := hdv
    refine ⟨k, Int.eq_of_mul_eq_mul_left (Int.ne_of_gt hUi) ?_⟩
    rw [← hx, hk, Int.pow_add]; ac_rfl
  refine ⟨A, H, L, Int.mul_comm _ _, by rw [hH, Int.mul_comm], by rw [hL, Int.mul_comm], ?_⟩
  refine ⟨?_, ?_, ?_, ?_, ?_⟩
  · rw [nA, Nat.pow_add] at hge
    exact Nat.le_of_mul_le_mul_right hge hU
  · rw [nA, Nat.pow_add] at hlt
    exact Nat.lt_of_mul_lt_mul_right hlt
  · have := h.sum
    rw [hH, hL, ← Int.mul_add] at this
    exact Int.eq_of_mul_eq_mul_left (Int.ne_of_gt hUi) this
  · have := h.lo_le
    rw [nL, Nat.pow_add] at this
    exact Nat.le_of_mul_le_mul_right this hU
  · rcases h.hi_or with ⟨h1, h2⟩ | ⟨h1, h2, h3⟩
    · refine Or.inl ⟨can hH h1, ?_⟩
      rw [nH, Nat.pow_add] at h2
      exact Nat.le_of_mul_le_mul_right h2 hU
    · refine Or.inr ⟨can hH h1, ?_, ?_⟩
      · rw [nH, Nat.pow_add, Nat.pow_add, ← Nat.add_mul] at h2
        exact Nat.le_of_mul_le_mul_right h2 hU
      · rw [nA, Nat.pow_add] at h3
        exact Nat.eq_of_mul_eq_mul_right hU h3

theorem HalvesU.few_hi {A H L : Int} (h : HalvesU A H L) : FewI H := by
  rcases h.hi_or with ⟨⟨k, hk⟩, h2⟩ | ⟨⟨k, hk⟩, h2, _⟩
  · refine ⟨k, 27, by rw [hk, Int.mul_comm], ?_⟩
    have : H.natAbs = 134217728 * k.natAbs := by rw [hk, Int.natAbs_mul]; rfl
    have e1 : (2 : Nat) ^ 53 = 9007199254740992 := rfl
    have e2 : (2 : Nat) ^ 27 = 134217728 := rfl
    omega
  · refine ⟨k, 26, by rw [hk, Int.mul_comm], ?_⟩
    have : H.natAbs = 67108864 * k.natAbs := by rw [hk, Int.natAbs_mul]; rfl
    have e1 : (2 : Nat) ^ 52 = 4503599627370496 := rfl
    have e2 : (2 : Nat) ^ 27 = 134217728 := rfl
    have e3 : (2 : Nat) ^ 26 = 67108864 := rfl
    omega
theorem HalvesU.few_lo {A H L : Int} (h : HalvesU A H L) : FewI L :=
  ⟨L, 0, by simp, Nat.lt_of_le_of_lt h.lo_le (by decide)⟩
theorem FewI.shift {n : Int} (h : FewI n) (k : Nat) : FewI (n * 2 ^ k) := by
  obtain ⟨m, e, rfl, hm⟩ := h
  exact ⟨m, e + k, by rw [Int.pow_add]; ac_rfl, hm⟩
end Flt
