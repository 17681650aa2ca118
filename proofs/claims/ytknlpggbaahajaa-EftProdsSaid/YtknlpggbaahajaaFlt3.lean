/- Products without an error: over whole numbers. No program is named here. -/
import Derived.Test.YtknlpggbaahajaaFlt2
namespace Flt

/-- two halves of a number of 53 bits -/
structure HalvesU (A H L : Int) : Prop where
  ge : 2 ^ 52 ≤ A.natAbs
  lt : A.natAbs < 2 ^ 53
  sum : A = H + L
  lo_le : L.natAbs ≤ 2 ^ 26
  hi_or : ((2 : Int) ^ 27 ∣ H ∧ H.natAbs ≤ 2 ^ 53) ∨ ((2 : Int) ^ 26 ∣ H ∧ H.natAbs ≤ 2 ^ 52 + 2 ^ 26 ∧ A.natAbs = 2 ^ 52)
theorem HalvesU.dvd {A H L : Int} (h : HalvesU A H L) : (2 : Int) ^ 26 ∣ H := by
  rcases h.hi_or with ⟨h1, _⟩ | ⟨h1, _⟩
  · exact two_dvd_of_le (by decide) h1
  · exact h1
theorem HalvesU.le {A H L : Int} (h : HalvesU A H L) : H.natAbs ≤ 2 ^ 53 := by
  rcases h.hi_or with ⟨_, h1⟩ | ⟨_, h1, _⟩
  · exact h1
  · exact Nat.le_trans h1 (by decide)

theorem shift_abs (x : Int) (k : Nat) : (x * 2 ^ k).natAbs = x.natAbs * 2 ^ k := by rw [Int.natAbs_mul, natAbs_two]
theorem shift_dvd {x : Int} {j k : Nat} (h : (2 : Int) ^ j ∣ x) : (2 : Int) ^ (j + k) ∣ x * 2 ^ k := by
  rw [Int.pow_add]; exact Int.mul_dvd_mul h (Int.dvd_refl _)
theorem fl_shift {x : Int} {j k : Nat} (h : (2 : Int) ^ j ∣ x) (hx : x.natAbs ≤ 2 ^ (53 + j)) : FL (x * 2 ^ k) := by
  refine fl_of (shift_dvd h) ?_
  rw [shift_abs, show 53 + (j + k) = 53 + j + k from by omega, Nat.pow_add 2 (53 + j) k]
  exact Nat.mul_le_mul_right _ hx
theorem mul_abs_le {a b : Int} {x y : Nat} (ha : a.natAbs ≤ x) (hb : b.natAbs ≤ y) : (a * b).natAbs ≤ x * y := by
  rw [Int.natAbs_mul]; exact Nat.mul_le_mul ha hb

structure Dekker (A H L B G M : Int) (k : Nat) (p : Int) : Prop where
  hg : FL (H * G * 2 ^ k)
  hm : FL (H * M * 2 ^ k)
  lg : FL (L * G * 2 ^ k)
  lm : FL (L * M * 2 ^ k)
  t1 : FL (H * G * 2 ^ k - p)
  t2 : FL (H * G * 2 ^ k - p + H * M * 2 ^ k)
  t2' : FL (H * G * 2 ^ k - p + L * G * 2 ^ k)
  t3 : FL (H * G * 2 ^ k - p + H * M * 2 ^ k + L * G * 2 ^ k)
  err : FL (A * B * 2 ^ k - p)
  sum : A * B * 2 ^ k = H * G * 2 ^ k + H * M * 2 ^ k + L * G * 2 ^ k + L * M * 2 ^ k

theorem dekker {A H L B G M : Int} {k : Nat} {p : Int} (hx : HalvesU A H L) (hy : HalvesU B G M) (hp : Near (A * B * 2 ^ k) p) : Dekker A H L B G M k p := by
  have xd := hx.dvd
  have yd := hy.dvd
  have xl := hx.le
  have yl := hy.le
  have hsum : A * B * 2 ^ k = H * G * 2 ^ k + H * M * 2 ^ k + L * G * 2 ^ k + L * M * 2 ^ k := by
    rw [hx.sum, hy.sum]
    simp only [Int.add_mul, Int.mul_add]
    omega
  -- the sizes
  have U0 : 0 < 2 ^ k := Nat.pow_pos (by decide)
  obtain ⟨U, hU⟩ : ∃ U, U = 2 ^ k := ⟨_, rfl⟩
  have q (j : Nat) : (2 : Nat) ^ (j + k) = 2 ^ j * U := by rw [Nat.pow_add, hU]
  have b2 : (H * M * 2 ^ k).natAbs ≤ 604462909807314587353088 * U := by rw [shift_abs, hU]; exact Nat.mul_le_mul_right _ (mul_abs_le xl hy.lo_le)
  have b3 : (L * G * 2 ^ k).natAbs ≤ 604462909807314587353088 * U := by rw [shift_abs, hU]; exact Nat.mul_le_mul_right _ (mul_abs_le hx.lo_le yl)
  have b4 : (L * M * 2 ^ k).natAbs ≤ 4503599627370496 * U := by rw [shift_abs, hU]; exact Nat.mul_le_mul_right _ (mul_abs_le hx.lo_le hy.lo_le)
  have bP : (A * B * 2 ^ k).natAbs ≤ 81129638414606681695789005144064 * U := by rw [shift_abs, hU]; exact Nat.mul_le_mul_right _ (mul_abs_le (Nat.le_of_lt hx.lt) (Nat.le_of_lt hy.lt))
  have bP2 : 20282409603651670423947251286016 * U ≤ (A * B * 2 ^ k).natAbs := by
    rw [shift_abs, hU, Int.natAbs_mul]; exact Nat.mul_le_mul_right _ (Nat.mul_le_mul hx.ge hy.ge)
  have E := hp.err (e := 52 + k) (by rw [show 54 + (52 + k) = 106 + k from by omega, q 106]; exact bP)
  rw [q 52] at E
  have dp : (2 : Int) ^ (52 + k) ∣ p := by
    refine dvd_of_ge hp.fl ?_
    have : (2 : Nat) ^ (52 + (52 + k)) = 20282409603651670423947251286016 * U := by rw [show 52 + (52 + k) = 104 + k from by omega, q 104]
    rw [this]
    have f104 : FL ((2 : Int) ^ (104 + k)) := fl_of (e := 52 + k) ⟨2 ^ 52, by rw [← Int.pow_add]; congr 1; omega⟩ (by rw [natAbs_two]; exact two_le (by omega))
    have c104 : ((2 : Int) ^ (104 + k)) = 20282409603651670423947251286016 * (U : Int) := by
      have : ((2 : Int) ^ (104 + k)) = (((2 : Nat) ^ (104 + k) : Nat) : Int) := by rw [Int.natCast_pow]; rfl
      rw [this, q 104]; rfl
    rcases Int.lt_or_le (A * B * 2 ^ k) 0 with h | h
    · have := hp.neg.ge f104 (by rw [c104]; omega)
      rw [c104] at this; omega
    · have := hp.ge f104 (by rw [c104]; omega)
      rw [c104] at this; omega
  have d1 : (2 : Int) ^ (52 + k) ∣ H * G * 2 ^ k := shift_dvd (by rw [show (52 : Nat) = 26 + 26 from rfl, Int.pow_add]; exact Int.mul_dvd_mul xd yd)
  have d2 : (2 : Int) ^ (26 + k) ∣ H * M * 2 ^ k := shift_dvd (Int.dvd_trans xd (Int.dvd_mul_right _ _))
  have d3 : (2 : Int) ^ (26 + k) ∣ L * G * 2 ^ k := shift_dvd (Int.dvd_trans yd (Int.dvd_mul_left _ _))
  have d4 : (2 : Int) ^ k ∣ L * M * 2 ^ k := Int.dvd_mul_left _ _
  have dP : (2 : Int) ^ k ∣ A * B * 2 ^ k := Int.dvd_mul_left _ _
  have dt1 := Int.dvd_sub d1 dp
  have fhg : FL (H * G * 2 ^ k) := by
    rcases hx.hi_or with ⟨x1, x2⟩ | ⟨x1, x2, _⟩ <;> rcases hy.hi_or with ⟨y1, y2⟩ | ⟨y1, y2, _⟩
    · exact fl_shift (j := 54) (by rw [show (54 : Nat) = 27 + 27 from rfl, Int.pow_add]; exact Int.mul_dvd_mul x1 y1) (Nat.le_trans (mul_abs_le x2 y2) (by decide))
    · exact fl_shift (j := 53) (by rw [show (53 : Nat) = 27 + 26 from rfl, Int.pow_add]; exact Int.mul_dvd_mul x1 y1) (Nat.le_trans (mul_abs_le x2 y2) (by decide))
    · exact fl_shift (j := 53) (by rw [show (53 : Nat) = 26 + 27 from rfl, Int.pow_add]; exact Int.mul_dvd_mul x1 y1) (Nat.le_trans (mul_abs_le x2 y2) (by decide))
    · exact fl_shift (j := 52) (by rw [show (52 : Nat) = 26 + 26 from rfl, Int.pow_add]; exact Int.mul_dvd_mul x1 y1) (Nat.le_trans (mul_abs_le x2 y2) (by decide))
  -- where a factor is a power of two, the product is exact
  have exact2 : ∀ A B : Int, A.natAbs = 2 ^ 52 → B.natAbs < 2 ^ 53 → FL (A * B * 2 ^ k) := by
    intro A B hA hB
    have hA2 : (2 : Int) ^ 52 ∣ A := by
      rcases Int.natAbs_eq A with h | h
      · rw [h, hA]; exact ⟨1, by simp⟩
      · rw [h, hA]; exact ⟨-1, by simp⟩
    exact fl_shift (j := 52) (Int.dvd_trans hA2 (Int.dvd_mul_right _ _)) (Nat.le_trans (mul_abs_le (Nat.le_of_eq hA) (Nat.le_of_lt hB)) (by decide))
  refine ⟨fhg, ?_, ?_, ?_, ?_, ?_, ?_, ?_, ?_, hsum⟩
  · exact fl_of d2 (by rw [show 53 + (26 + k) = 79 + k from by omega, q 79]; exact b2)
  · exact fl_of d3 (by rw [show 53 + (26 + k) = 79 + k from by omega, q 79]; exact b3)
  · exact fl_of d4 (by rw [q 53]; omega)
  · exact fl_of dt1 (by rw [show 53 + (52 + k) = 105 + k from by omega, q 105]; omega)
  · rcases hx.hi_or with ⟨x1, _⟩ | ⟨_, _, x3⟩
    · have d2' : (2 : Int) ^ (27 + k) ∣ H * M * 2 ^ k := shift_dvd (Int.dvd_trans x1 (Int.dvd_mul_right _ _))
      exact fl_of (Int.dvd_add (two_dvd_of_le (by omega) dt1) d2') (by rw [show 53 + (27 + k) = 80 + k from by omega, q 80]; omega)
    · have hpe := hp.self (exact2 A B x3 hy.lt)
      have hLB : (L * B * 2 ^ k).natAbs ≤ 604462909807314587353088 * U := by rw [shift_abs, hU]; exact Nat.mul_le_mul_right _ (mul_abs_le hx.lo_le (Nat.le_of_lt hy.lt))
      have eLB : L * B * 2 ^ k = L * G * 2 ^ k + L * M * 2 ^ k := by rw [hy.sum, Int.mul_add, Int.add_mul]
      exact fl_of (Int.dvd_add (two_dvd_of_le (by omega) dt1) d2) (by rw [show 53 + (26 + k) = 79 + k from by omega, q 79]; omega)
  · rcases hy.hi_or with ⟨y1, _⟩ | ⟨_, _, y3⟩
    · have d3' : (2 : Int) ^ (27 + k) ∣ L * G * 2 ^ k := shift_dvd (Int.dvd_trans y1 (Int.dvd_mul_left _ _))
      exact fl_of (Int.dvd_add (two_dvd_of_le (by omega) dt1) d3') (by rw [show 53 + (27 + k) = 80 + k from by omega, q 80]; omega)
    · have hpe := hp.self (by rw [Int.mul_comm A B]; exact exact2 B A y3 hx.lt)
      have hAM : (A * M * 2 ^ k).natAbs ≤ 604462909807314587353088 * U := by
        rw [shift_abs, hU]
        exact Nat.mul_le_mul_right _ (Nat.le_trans (mul_abs_le (Nat.le_of_lt hx.lt) hy.lo_le) (by decide))
      have eAM : A * M * 2 ^ k = H * M * 2 ^ k + L * M * 2 ^ k := by rw [hx.sum, Int.add_mul, Int.add_mul]
      exact fl_of (Int.dvd_add (two_dvd_of_le (by omega) dt1) d3) (by rw [show 53 + (26 + k) = 79 + k from by omega, q 79]; omega)
  · refine fl_of (e := k) (Int.dvd_add (Int.dvd_add (two_dvd_of_le (by omega) dt1) (two_dvd_of_le (by omega) d2)) (two_dvd_of_le (by omega) d3)) ?_
    rw [q 53]; omega
  · exact fl_of (Int.dvd_sub dP (two_dvd_of_le (by omega) dp)) (by rw [q 53]; omega)
end Flt
