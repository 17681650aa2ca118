/- Sums without an error by two ways, splitting a float, products without an error: over whole numbers. No program is named here. -/
import Derived.Test.YtknlpggbaahajaaFlt
namespace Flt

/-- the sum of two of which the first is the greater -/
theorem fast_two_sum {a b s z e : Int} (ha : FL a) (hb : FL b) (hab : b.natAbs ≤ a.natAbs) (h1 : Near (a + b) s) (h2 : Near (s - a) z) (h3 : Near (b - z) e) : s + e = a + b := by
  have e1 := h2.self (fast_fl ha hb hab h1)
  subst e1
  have e2 : b - (s - a) = a + b - s := by omega
  rw [e2] at h3
  have e3 := h3.self (err_fl ha hb h1)
  omega

/-- the sum of any two, by six operations -/
theorem two_sum {a b s a' b' da db t : Int} (ha : FL a) (hb : FL b) (h1 : Near (a + b) s) (h2 : Near (s - b) a') (h3 : Near (s - a') b') (h4 : Near (a - a') da) (h5 : Near (b - b') db) (h6 : Near (da + db) t) : s + t = a + b := by
  have herr := err_fl ha hb h1
  by_cases hab : a.natAbs ≤ b.natAbs
  · have e1 := h2.self (fast_fl hb ha hab (by rwa [Int.add_comm]))
    subst e1
    have e2 := h3.self (by have : s - (s - b) = b := by omega
                           rw [this]; exact hb)
    have e3 := h4.self (by have : a - (s - b) = a + b - s := by omega
                           rw [this]; exact herr)
    have e4 := h5.self (by have : b - b' = 0 := by omega
                           rw [this]; exact fl_zero)
    have e5 := h6.self (by have : da + db = a + b - s := by omega
                           rw [this]; exact herr)
    omega
  · by_cases hsb : s.natAbs < b.natAbs
    · have es : s = a + b := by
        refine Classical.byContradiction fun hne => ?_
        obtain ⟨f, hdf, hf, hcf⟩ := canon hb
        have hda : (2 : Int) ^ f ∣ a := by
          rcases hcf with h | h
          · rw [h]; simp
          · exact dvd_of_ge ha (by omega)
        have := (h1.great (Int.dvd_add hda hdf) hne).2
        omega
      have e1 := h2.self (by have : s - b = a := by omega
                             rw [this]; exact ha)
      have e2 := h3.self (by have : s - a' = b := by omega
                             rw [this]; exact hb)
      have e3 := h4.self (by have : a - a' = 0 := by omega
                             rw [this]; exact fl_zero)
      have e4 := h5.self (by have : b - b' = 0 := by omega
                             rw [this]; exact fl_zero)
      have e5 := h6.self (by have : da + db = 0 := by omega
                             rw [this]; exact fl_zero)
      omega
    · have h2' : Near (s + -b) a' := h2
      have f1 := fast_fl h1.fl (fl_neg hb) (by omega) h2'
      have f2 := err_fl h1.fl (fl_neg hb) h2'
      have e2 := h3.self (by have : s - a' = -(a' - s) := by omega
                             rw [this]; exact fl_neg f1)
      have e4 := h5.self (by have : b - b' = -(s + -b - a') := by omega
                             rw [this]; exact fl_neg f2)
      have f3 : FL (a - a') := by
        obtain ⟨e, hde, he, hce⟩ := canon ha
        have herr1 := h1.err (e := e) (by
          have : (2 : Nat) ^ (54 + e) = 2 * 2 ^ (53 + e) := by rw [show 54 + e = 53 + e + 1 from by omega, Nat.pow_succ, Nat.mul_comm]
          omega)
        have hna := h2.le a ha
        have hd : (a - a').natAbs ≤ 2 * 2 ^ e := by omega
        rcases hce with h0 | h0
        · subst h0
          refine fl_small ?_
          have h5 : (2 : Nat) ^ 53 = 9007199254740992 := rfl
          have h6 : (2 : Nat) ^ 0 = 1 := rfl
          omega
        · by_cases e0 : e = 0
          · subst e0
            refine fl_small ?_
            have h5 : (2 : Nat) ^ 53 = 9007199254740992 := rfl
            have h6 : (2 : Nat) ^ 0 = 1 := rfl
            omega
          · obtain ⟨g, rfl⟩ : ∃ g, e = g + 1 := ⟨e - 1, by omega⟩
            have p1 : (2 : Nat) ^ (g + 1) = 2 * 2 ^ g := by rw [Nat.pow_succ, Nat.mul_comm]
            have p2 : (2 : Nat) ^ (52 + (g + 1)) = 9007199254740992 * 2 ^ g := by rw [show 52 + (g + 1) = 53 + g from by omega, Nat.pow_add]
            have p3 : (2 : Nat) ^ (52 + g) = 4503599627370496 * 2 ^ g := by rw [Nat.pow_add]
            have p4 : (2 : Nat) ^ (53 + g) = 9007199254740992 * 2 ^ g := by rw [Nat.pow_add]
            have hpos : 0 < 2 ^ g := Nat.pow_pos (by decide)
            have hda' : (2 : Int) ^ g ∣ a' := dvd_of_ge h2.fl (by omega)
            exact fl_of (Int.dvd_sub (two_dvd_of_le (by omega) hde) hda') (by omega)
      have e3 := h4.self f3
      have e5 := h6.self (by have : da + db = a + b - s := by omega
                             rw [this]; exact herr)
      omega

/-! splitting: by the product with 2^27 + 1 -/
/-- a float of last place e in two halves -/
structure Halves (a : Int) (e : Nat) (hi lo : Int) : Prop where
  sum : a = hi + lo
  lo_dvd : (2 : Int) ^ e ∣ lo
  lo_le : lo.natAbs ≤ 2 ^ (26 + e)
  hi_or : ((2 : Int) ^ (27 + e) ∣ hi ∧ hi.natAbs ≤ 2 ^ (53 + e)) ∨ ((2 : Int) ^ (26 + e) ∣ hi ∧ hi.natAbs ≤ 2 ^ (52 + e) + 2 ^ (26 + e) ∧ a.natAbs = 2 ^ (52 + e))
theorem Halves.neg {a hi lo : Int} {e : Nat} (h : Halves a e hi lo) : Halves (-a) e (-hi) (-lo) := by
  refine ⟨by have := h.sum; omega, Int.dvd_neg.2 h.lo_dvd, by rw [Int.natAbs_neg]; exact h.lo_le, ?_⟩
  rw [Int.natAbs_neg, Int.natAbs_neg]
  rcases h.hi_or with ⟨h1, h2⟩ | ⟨h1, h2, h3⟩
  · exact Or.inl ⟨Int.dvd_neg.2 h1, h2⟩
  · exact Or.inr ⟨Int.dvd_neg.2 h1, h2, h3⟩

theorem split_halves {a c d hi lo : Int} {e : Nat} (hd : (2 : Int) ^ e ∣ a) (hge : 2 ^ (52 + e) ≤ a.natAbs) (hlt : a.natAbs < 2 ^ (53 + e))
    (h1 : Near (134217729 * a) c) (h2 : Near (c - a) d) (h3 : Near (c - d) hi) (h4 : Near (a - hi) lo) : Halves a e hi lo := by
  have key : ∀ a c d hi lo : Int, 0 ≤ a → (2 : Int) ^ e ∣ a → 2 ^ (52 + e) ≤ a.natAbs → a.natAbs < 2 ^ (53 + e) →
      Near (134217729 * a) c → Near (c - a) d → Near (c - d) hi → Near (a - hi) lo → Halves a e hi lo := by
    intro a c d hi lo a0 hd hge hlt h1 h2 h3 h4
    have q (j : Nat) : (2 : Nat) ^ (j + e) = 2 ^ j * 2 ^ e := Nat.pow_add 2 j e
    have hU : 0 < 2 ^ e := Nat.pow_pos (by decide)
    obtain ⟨U, hUe⟩ : ∃ U, U = 2 ^ e := ⟨_, rfl⟩
    have p26 : (2 : Nat) ^ (26 + e) = 67108864 * U := by rw [q 26, hUe]
    have p27 : (2 : Nat) ^ (27 + e) = 134217728 * U := by rw [q 27, hUe]
    have p52 : (2 : Nat) ^ (52 + e) = 4503599627370496 * U := by rw [q 52, hUe]
    have p53 : (2 : Nat) ^ (53 + e) = 9007199254740992 * U := by rw [q 53, hUe]
    have p78 : (2 : Nat) ^ (52 + (26 + e)) = 302231454903657293676544 * U := by rw [show 52 + (26 + e) = 78 + e from by omega, q 78, hUe]
    have p79 : (2 : Nat) ^ (52 + (27 + e)) = 604462909807314587353088 * U := by rw [show 52 + (27 + e) = 79 + e from by omega, q 79, hUe]
    have p80 : (2 : Nat) ^ (54 + (26 + e)) = 1208925819614629174706176 * U := by rw [show 54 + (26 + e) = 80 + e from by omega, q 80, hUe]
    have p81 : (2 : Nat) ^ (54 + (27 + e)) = 2417851639229258349412352 * U := by rw [show 54 + (27 + e) = 81 + e from by omega, q 81, hUe]
    rw [← hUe] at hU
    rw [p52] at hge
    rw [p53] at hlt
    -- a is a multiple of U
    have ha1 : a.natAbs + U ≤ 9007199254740992 * U ∧ ∃ k : Nat, a = (k : Int) * (U : Int) := by
      obtain ⟨k, hk⟩ := hd
      have eU : ((2 : Int) ^ e) = (U : Int) := by rw [hUe, Int.natCast_pow]; rfl
      rw [eU] at hk
      have hk0 : 0 ≤ k := by
        refine Classical.byContradiction fun hc => ?_
        have : (U : Int) * k ≤ (U : Int) * (-1) := Int.mul_le_mul_of_nonneg_left (by omega) (by omega)
        omega
      obtain ⟨m, rfl⟩ := Int.eq_ofNat_of_zero_le hk0
      have hka : a.natAbs = m * U := by rw [hk, Int.natAbs_mul, Nat.mul_comm]; rfl
      have hm : m < 9007199254740992 := by
        refine Classical.byContradiction fun hc => ?_
        have : 9007199254740992 * U ≤ m * U := Nat.mul_le_mul_right _ (by omega)
        omega
      have : (m + 1) * U ≤ 9007199254740992 * U := Nat.mul_le_mul_right _ hm
      rw [Nat.add_mul, Nat.one_mul, ← hka] at this
      exact ⟨this, m, by rw [hk, Int.mul_comm]⟩
    obtain ⟨ha1, k, hak⟩ := ha1
    have E1 := h1.err (e := 27 + e) (by rw [p81]; omega)
    rw [p27] at E1
    have E2 := h2.err (e := 26 + e) (by rw [p80]; omega)
    rw [p26] at E2
    have dc : (2 : Int) ^ (27 + e) ∣ c := dvd_of_ge h1.fl (by rw [p79]; omega)
    have fin : ∀ h : Int, hi = h → (a - h).natAbs ≤ 67108864 * U → (2 : Int) ^ (26 + e) ∣ h → lo = a - h ∧ (2 : Int) ^ e ∣ a - h := by
      intro h eh hle hdh
      subst eh
      have hda : (2 : Int) ^ e ∣ a - hi := Int.dvd_sub hd (two_dvd_of_le (by omega) hdh)
      exact ⟨h4.self (fl_of hda (by rw [p53]; omega)), hda⟩
    by_cases hd79 : 604462909807314587353088 * U ≤ d.natAbs
    · have dd : (2 : Int) ^ (27 + e) ∣ d := dvd_of_ge h2.fl (by rw [p79]; exact hd79)
      have dcd := Int.dvd_sub dc dd
      have e3 := h3.self (fl_of dcd (by rw [show 53 + (27 + e) = 54 + (26 + e) from by omega, p80]; omega))
      obtain ⟨e4, e5⟩ := fin _ e3 (by omega) (two_dvd_of_le (by omega) dcd)
      refine ⟨by omega, e4 ▸ e5, by rw [p26]; omega, Or.inl ⟨e3 ▸ dcd, ?_⟩⟩
      -- a multiple of 2^27 U
      obtain ⟨j, hj⟩ := dcd
      have eV : ((2 : Int) ^ (27 + e)) = 134217728 * (U : Int) := by
        have : ((2 : Int) ^ (27 + e)) = (((2 : Nat) ^ (27 + e) : Nat) : Int) := by rw [Int.natCast_pow]; rfl
        rw [this, p27]; rfl
      rw [eV] at hj
      rw [p53, e3, hj]
      have hja : (134217728 * (U : Int) * j).natAbs = 134217728 * U * j.natAbs := by rw [Int.natAbs_mul, Int.natAbs_mul]; rfl
      rw [hja]
      refine Classical.byContradiction fun hc => ?_
      have hjj : 67108864 < j.natAbs := by
        refine Classical.byContradiction fun hx => hc ?_
        have : 134217728 * U * j.natAbs ≤ 134217728 * U * 67108864 := Nat.mul_le_mul_left _ (by omega)
        omega
      have h7 : 134217728 * U * 67108865 ≤ 134217728 * U * j.natAbs := Nat.mul_le_mul_left _ hjj
      omega
    · -- a is a power of two
      have hf79 : FL ((2 : Int) ^ (52 + (27 + e))) := fl_of (e := 27 + e) ⟨2 ^ 52, by rw [Int.pow_add, Int.mul_comm]⟩ (by rw [natAbs_two]; exact two_le (by omega))
      have e79 : ((2 : Int) ^ (52 + (27 + e))) = 604462909807314587353088 * (U : Int) := by
        have : ((2 : Int) ^ (52 + (27 + e))) = (((2 : Nat) ^ (52 + (27 + e)) : Nat) : Int) := by rw [Int.natCast_pow]; rfl
        rw [this, p79]; rfl
      have hn2 : c - a < 604462909807314587353088 * (U : Int) := by
        refine Classical.byContradiction fun hc => hd79 ?_
        have := h2.ge hf79 (by rw [e79]; omega)
        rw [e79] at this
        omega
      have hak2 : a = 4503599627370496 * (U : Int) := by
        have h8 : k = 4503599627370496 := by
          have h9 : a.natAbs = k * U := by rw [hak, Int.natAbs_mul]; rfl
          have h10 : 4503599627370496 ≤ k := by
            refine Classical.byContradiction fun hc => ?_
            have : k * U ≤ 4503599627370495 * U := Nat.mul_le_mul_right _ (by omega)
            omega
          have h11 : k < 4503599627370497 := by
            refine Classical.byContradiction fun hc => ?_
            have : 4503599627370497 * U ≤ k * U := Nat.mul_le_mul_right _ (by omega)
            omega
          omega
        rw [hak, h8]; rfl
      have dd : (2 : Int) ^ (26 + e) ∣ d := dvd_of_ge h2.fl (by rw [p78]; omega)
      have dcd := Int.dvd_sub (two_dvd_of_le (by omega) dc : (2 : Int) ^ (26 + e) ∣ c) dd
      have e3 := h3.self (fl_of dcd (by rw [show 53 + (26 + e) = 52 + (27 + e) from by omega, p79]; omega))
      obtain ⟨e4, e5⟩ := fin _ e3 (by omega) dcd
      exact ⟨by omega, e4 ▸ e5, by rw [p26]; omega, Or.inr ⟨e3 ▸ dcd, by rw [p52, p26]; omega, by rw [p52]; omega⟩⟩
  rcases Int.lt_or_le a 0 with ha | ha
  · have n1 := h1.neg
    have n2 := h2.neg
    have n3 := h3.neg
    have n4 := h4.neg
    have := key (-a) (-c) (-d) (-hi) (-lo) (by omega) (Int.dvd_neg.2 hd) (by omega) (by omega)
      (by have e : 134217729 * -a = -(134217729 * a) := by omega
          rw [e]; exact n1)
      (by have e : -c - -a = -(c - a) := by omega
          rw [e]; exact n2)
      (by have e : -c - -d = -(c - d) := by omega
          rw [e]; exact n3)
      (by have e : -a - -hi = -(a - hi) := by omega
          rw [e]; exact n4)
    have h5 := this.neg
    rwa [Int.neg_neg, Int.neg_neg, Int.neg_neg] at h5
  · exact key a c d hi lo ha hd hge hlt h1 h2 h3 h4
end Flt
