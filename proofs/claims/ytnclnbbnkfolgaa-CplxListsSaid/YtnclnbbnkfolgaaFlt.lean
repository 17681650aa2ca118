/- Floats of 53 bits as whole numbers (of the least unit): rounding to nearest, sums and what they lack. No program is named here. -/
import Derived.Test.YtnclnbbnkfolgaaProg
namespace Flt

/-- a float: fewer than 54 bits, times a power of two -/
def FL (n : Int) : Prop := ∃ (m : Int) (e : Nat), n = m * 2 ^ e ∧ m.natAbs < 2 ^ 53
/-- z is a nearest float to n -/
structure Near (n z : Int) : Prop where
  fl : FL z
  le : ∀ y, FL y → (z - n).natAbs ≤ (y - n).natAbs

theorem two_pos (e : Nat) : (0 : Int) < 2 ^ e := Int.pow_pos (by decide)
theorem natAbs_two (e : Nat) : ((2 : Int) ^ e).natAbs = 2 ^ e := by rw [Int.natAbs_pow]; rfl
theorem two_lt {a b : Nat} (h : 2 ^ a < 2 ^ b) : a < b := (Nat.pow_lt_pow_iff_right (by decide)).1 h
theorem two_le {a b : Nat} (h : a ≤ b) : 2 ^ a ≤ 2 ^ b := Nat.pow_le_pow_right (by decide) h
theorem two_lt' {a b : Nat} (h : a < b) : 2 ^ a < 2 ^ b := Nat.pow_lt_pow_right (by decide) h

theorem fl_zero : FL 0 := ⟨0, 0, by simp, by decide⟩
theorem fl_neg {n : Int} (h : FL n) : FL (-n) := by
  obtain ⟨m, e, rfl, hm⟩ := h
  exact ⟨-m, e, by rw [Int.neg_mul], by rwa [Int.natAbs_neg]⟩
theorem Near.neg {n z : Int} (h : Near n z) : Near (-n) (-z) := by
  refine ⟨fl_neg h.fl, fun y hy => ?_⟩
  have h1 := h.le (-y) (fl_neg hy)
  omega
theorem fl_of {n : Int} {e : Nat} (hd : (2 : Int) ^ e ∣ n) (h : n.natAbs ≤ 2 ^ (53 + e)) : FL n := by
  obtain ⟨m, rfl⟩ := hd
  rw [Int.natAbs_mul, natAbs_two, Nat.pow_add, Nat.mul_comm] at h
  have hm : m.natAbs ≤ 2 ^ 53 := Nat.le_of_mul_le_mul_right h (Nat.pow_pos (by decide))
  by_cases hlt : m.natAbs < 2 ^ 53
  · exact ⟨m, e, by rw [Int.mul_comm], hlt⟩
  · have hm2 : m.natAbs = 2 ^ 53 := by omega
    rcases Int.natAbs_eq m with h1 | h1
    · refine ⟨1, e + 53, ?_, by decide⟩
      rw [h1, hm2, Int.pow_add, Int.one_mul]; rfl
    · refine ⟨-1, e + 53, ?_, by decide⟩
      rw [h1, hm2, Int.pow_add, Int.neg_mul, Int.one_mul, Int.mul_neg]; rfl
theorem dvd_of_ge {n : Int} {e : Nat} (h : FL n) (hge : 2 ^ (52 + e) ≤ n.natAbs) : (2 : Int) ^ e ∣ n := by
  obtain ⟨m, f, rfl, hm⟩ := h
  have hef : e ≤ f := by
    rw [Int.natAbs_mul, natAbs_two] at hge
    have h1 : m.natAbs * 2 ^ f < 2 ^ 53 * 2 ^ f := Nat.mul_lt_mul_of_pos_right hm (Nat.pow_pos (by decide))
    rw [← Nat.pow_add] at h1
    have := two_lt (Nat.lt_of_le_of_lt hge h1)
    omega
  obtain ⟨k, rfl⟩ : ∃ k, f = e + k := ⟨f - e, by omega⟩
  exact ⟨m * 2 ^ k, by rw [Int.pow_add]; ac_rfl⟩
/-- the exponent of the last bit -/
theorem canon {n : Int} (h : FL n) : ∃ e : Nat, (2 : Int) ^ e ∣ n ∧ n.natAbs < 2 ^ (53 + e) ∧ (e = 0 ∨ 2 ^ (52 + e) ≤ n.natAbs) := by
  by_cases hs : n.natAbs < 2 ^ 53
  · exact ⟨0, by simp, by simpa using hs, Or.inl rfl⟩
  · have hn0 : n.natAbs ≠ 0 := by
      intro hc; rw [hc] at hs; exact hs (by decide)
    have h1 := Nat.log2_self_le hn0
    have h2 := @Nat.lt_log2_self n.natAbs
    have h52 : 53 ≤ n.natAbs.log2 := (Nat.le_log2 hn0).2 (by omega)
    have e1 : 52 + (n.natAbs.log2 - 52) = n.natAbs.log2 := by omega
    have e2 : 53 + (n.natAbs.log2 - 52) = n.natAbs.log2 + 1 := by omega
    refine ⟨n.natAbs.log2 - 52, dvd_of_ge h (by rw [e1]; exact h1), by rw [e2]; exact h2, Or.inr (by rw [e1]; exact h1)⟩
theorem fl_small {n : Int} (h : n.natAbs ≤ 2 ^ 53) : FL n := fl_of (e := 0) (by simp) (by simpa using h)

theorem Near.self {n z : Int} (h : Near n z) (hf : FL n) : z = n := by
  have := h.le n hf
  omega
theorem Near.ge {n z y : Int} (h : Near n z) (hy : FL y) (hle : y ≤ n) : y ≤ z := by
  have := h.le y hy
  omega
theorem Near.le' {n z y : Int} (h : Near n z) (hy : FL y) (hle : n ≤ y) : z ≤ y := by
  have := h.le y hy
  omega
/-- the error: at most half the last place -/
theorem Near.err {n z : Int} {e : Nat} (h : Near n z) (hn : n.natAbs ≤ 2 ^ (54 + e)) : (z - n).natAbs ≤ 2 ^ e := by
  -- the multiple of 2^(e+1) that is nearest
  have hp := two_pos e
  have hpn : ((2 : Int) ^ e).natAbs = 2 ^ e := natAbs_two e
  have key : ∃ y : Int, (2 : Int) ^ (e + 1) ∣ y ∧ (y - n).natAbs ≤ 2 ^ e ∧ y.natAbs ≤ 2 ^ (54 + e) := by
    have hm := Int.mul_ediv_add_emod n (2 ^ (e + 1))
    have h0 := Int.emod_nonneg n (Int.ne_of_gt (two_pos (e + 1)))
    have h1 := Int.emod_lt_of_pos n (two_pos (e + 1))
    have ee : (2 : Int) ^ (e + 1) = 2 * 2 ^ e := by rw [Int.pow_succ, Int.mul_comm]
    have bnd : ∀ y : Int, (2 : Int) ^ (e + 1) ∣ y → (y - n).natAbs ≤ 2 ^ e → y.natAbs ≤ 2 ^ (54 + e) := by
      intro y ⟨k, hk⟩ hy
      refine Classical.byContradiction fun hc => ?_
      have e54 : (2 : Nat) ^ (54 + e) = 2 ^ 53 * 2 ^ (e + 1) := by rw [← Nat.pow_add]; congr 1; omega
      have hka : y.natAbs = k.natAbs * 2 ^ (e + 1) := by rw [hk, Int.natAbs_mul, natAbs_two, Nat.mul_comm]
      have hk53 : 2 ^ 53 < k.natAbs := by
        refine Classical.byContradiction fun hx => hc ?_
        rw [hka, e54]; exact Nat.mul_le_mul_right _ (by omega)
      have h5 : (2 ^ 53 + 1) * 2 ^ (e + 1) ≤ k.natAbs * 2 ^ (e + 1) := Nat.mul_le_mul_right _ (by omega)
      rw [Nat.add_mul, ← e54, Nat.one_mul, ← hka, Nat.pow_succ] at h5
      have hpp : 0 < 2 ^ e := Nat.pow_pos (by decide)
      omega
    by_cases hr : n % 2 ^ (e + 1) ≤ 2 ^ e
    · refine ⟨2 ^ (e + 1) * (n / 2 ^ (e + 1)), Int.dvd_mul_right _ _, by omega, bnd _ (Int.dvd_mul_right _ _) (by omega)⟩
    · refine ⟨2 ^ (e + 1) * (n / 2 ^ (e + 1) + 1), Int.dvd_mul_right _ _, ?_, bnd _ (Int.dvd_mul_right _ _) ?_⟩
      · rw [Int.mul_add, Int.mul_one]; omega
      · rw [Int.mul_add, Int.mul_one]; omega
  obtain ⟨y, hy1, hy2, hy3⟩ := key
  exact Nat.le_trans (h.le y (fl_of hy1 (by rw [show 53 + (e + 1) = 54 + e from by omega]; exact hy3))) hy2

/-- a number of last place e whose nearest float is not itself is great, and so is that float -/
theorem Near.great {n z : Int} {e : Nat} (h : Near n z) (hd : (2 : Int) ^ e ∣ n) (hne : z ≠ n) : 2 ^ (53 + e) ≤ n.natAbs ∧ 2 ^ (53 + e) ≤ z.natAbs := by
  have h1 : ¬ n.natAbs ≤ 2 ^ (53 + e) := fun hc => hne (h.self (fl_of hd hc))
  have hf : FL ((2 : Int) ^ (53 + e)) := fl_of (e := e) ⟨2 ^ 53, by rw [Int.pow_add, Int.mul_comm]⟩ (by rw [natAbs_two]; omega)
  have h2 := natAbs_two (53 + e)
  have hp := two_pos (53 + e)
  refine ⟨by omega, ?_⟩
  rcases Int.lt_or_le n 0 with hn | hn
  · have := h.neg.ge hf (by omega)
    omega
  · have := h.ge hf (by omega)
    omega
/-- the nearest float is a multiple, too -/
theorem Near.dvd {n z : Int} {e : Nat} (h : Near n z) (hd : (2 : Int) ^ e ∣ n) : (2 : Int) ^ e ∣ z := by
  by_cases hne : z = n
  · rw [hne]; exact hd
  · have := (h.great hd hne).2
    exact dvd_of_ge h.fl (Nat.le_trans (two_le (by omega)) this)

theorem two_dvd_of_le {e f : Nat} (h : e ≤ f) {n : Int} (hd : (2 : Int) ^ f ∣ n) : (2 : Int) ^ e ∣ n := by
  obtain ⟨k, rfl⟩ : ∃ k, f = e + k := ⟨f - e, by omega⟩
  exact Int.dvd_trans ⟨2 ^ k, by rw [Int.pow_add]⟩ hd

/-- what a sum lacks is a float -/
theorem err_fl {a b s : Int} (ha : FL a) (hb : FL b) (h : Near (a + b) s) : FL (a + b - s) := by
  have key : ∀ a b s : Int, FL a → FL b → b.natAbs ≤ a.natAbs → Near (a + b) s → FL (a + b - s) := by
    intro a b s ha hb hab h
    obtain ⟨e, hd, hlt, hc⟩ := canon hb
    have hda : (2 : Int) ^ e ∣ a := by
      rcases hc with rfl | hc
      · simp
      · exact dvd_of_ge ha (by omega)
    have hds := h.dvd (Int.dvd_add hda hd)
    have hle := h.le a ha
    exact fl_of (Int.dvd_sub (Int.dvd_add hda hd) hds) (by omega)
  rcases Nat.le_total b.natAbs a.natAbs with hab | hab
  · exact key a b s ha hb hab h
  · have := key b a s hb ha hab (by rwa [Int.add_comm])
    rwa [Int.add_comm b a] at this

/-- the greater part taken from a sum leaves a float -/
theorem fast_fl {x y z : Int} (hx : FL x) (hy : FL y) (hle : y.natAbs ≤ x.natAbs) (h : Near (x + y) z) : FL (z - x) := by
  have key : ∀ x y z : Int, 0 ≤ x → FL x → FL y → y.natAbs ≤ x.natAbs → Near (x + y) z → FL (z - x) := by
    intro x y z x0 hx hy hle h
    by_cases hez : z = x + y
    · have : z - x = y := by omega
      rw [this]; exact hy
    obtain ⟨f, hdf, hf, hcf⟩ := canon hy
    obtain ⟨e, hde, he, hce⟩ := canon hx
    by_cases e0 : e = 0
    · subst e0
      have h2 : 2 ^ (53 + 0) = 9007199254740992 := rfl
      have h4 := h.err (e := 0) (by have : 2 ^ (54 + 0) = 18014398509481984 := rfl
                                    omega)
      refine fl_small ?_
      have h5 : (2 : Nat) ^ 53 = 9007199254740992 := rfl
      have h6 : (2 : Nat) ^ 0 = 1 := rfl
      omega
    obtain ⟨g, rfl⟩ : ∃ g, e = g + 1 := ⟨e - 1, by omega⟩
    clear e0
    have hce : 2 ^ (52 + (g + 1)) ≤ x.natAbs := by
      rcases hce with h1 | h1
      · omega
      · exact h1
    have p1 : (2 : Nat) ^ (g + 1) = 2 * 2 ^ g := by rw [Nat.pow_succ, Nat.mul_comm]
    have p52 : (2 : Nat) ^ (52 + (g + 1)) = 9007199254740992 * 2 ^ g := by rw [show 52 + (g + 1) = 53 + g from by omega, Nat.pow_add]
    have p53 : (2 : Nat) ^ (53 + (g + 1)) = 18014398509481984 * 2 ^ g := by rw [show 53 + (g + 1) = 54 + g from by omega, Nat.pow_add]
    have hpos : 0 < 2 ^ g := Nat.pow_pos (by decide)
    -- x is at most (2^53 - 1) * 2^(g+1)
    have hx1 : x.natAbs + 2 * 2 ^ g ≤ 18014398509481984 * 2 ^ g := by
      obtain ⟨k, hk⟩ := hde
      have hka : x.natAbs = k.natAbs * (2 * 2 ^ g) := by rw [hk, Int.natAbs_mul, natAbs_two, p1, Nat.mul_comm]
      have hk53 : k.natAbs < 9007199254740992 := by
        refine Classical.byContradiction fun hc => ?_
        have : 9007199254740992 * (2 * 2 ^ g) ≤ k.natAbs * (2 * 2 ^ g) := Nat.mul_le_mul_right _ (by omega)
        omega
      have : (k.natAbs + 1) * (2 * 2 ^ g) ≤ 9007199254740992 * (2 * 2 ^ g) := Nat.mul_le_mul_right _ hk53
      rw [Nat.add_mul, Nat.one_mul, ← hka] at this
      omega
    by_cases hy0 : 0 ≤ y
    · -- the sum is no less than x
      have hzx := h.ge hx (by omega)
      have hdz : (2 : Int) ^ (g + 1) ∣ z := dvd_of_ge h.fl (by omega)
      have herr := h.err (e := g + 1) (by
        rw [show 54 + (g + 1) = 55 + g from by omega, Nat.pow_add]
        have : (2 : Nat) ^ 55 = 36028797018963968 := rfl
        rw [this]; omega)
      refine fl_of (Int.dvd_sub hdz hde) ?_
      omega
    · by_cases hhalf : 2 * y.natAbs ≤ x.natAbs
      · -- the sum is no less than half of x
        have hhx : FL ((2 : Int) ^ (52 + g)) := fl_of (e := g) ⟨2 ^ 52, by rw [Int.pow_add, Int.mul_comm]⟩ (by rw [natAbs_two]; exact two_le (by omega))
        have q52 : (2 : Int) ^ (52 + g) = 4503599627370496 * 2 ^ g := by rw [Int.pow_add]; rfl
        have pc : ((2 ^ g : Nat) : Int) = (2 : Int) ^ g := by rw [Int.natCast_pow]; rfl
        have hz1 := h.ge hhx (by omega)
        have hzx := h.le' hx (by omega)
        have hdz : (2 : Int) ^ g ∣ z := dvd_of_ge h.fl (by
          have : (2 : Nat) ^ (52 + g) = 4503599627370496 * 2 ^ g := by rw [Nat.pow_add]
          omega)
        have herr := h.err (e := g) (by rw [Nat.pow_add]; have : (2 : Nat) ^ 54 = 18014398509481984 := rfl
                                        rw [this]; omega)
        refine fl_of (Int.dvd_sub hdz (two_dvd_of_le (by omega) hde)) ?_
        have : (2 : Nat) ^ (53 + g) = 9007199254740992 * 2 ^ g := by rw [Nat.pow_add]
        omega
      · -- the sum is exact
        exfalso
        refine hez (h.self ?_)
        have hdx : (2 : Int) ^ f ∣ x := by
          rcases hcf with h1 | h1
          · rw [h1]; simp
          · exact dvd_of_ge hx (by omega)
        exact fl_of (Int.dvd_add hdx hdf) (by omega)
  rcases Int.lt_or_le x 0 with hx0 | hx0
  · have := key (-x) (-y) (-z) (by omega) (fl_neg hx) (fl_neg hy) (by omega) (by have := h.neg
                                                                                 rwa [Int.neg_add] at this)
    have e : -(-z - -x) = z - x := by omega
    rw [← e]; exact fl_neg this
  · exact key x y z hx0 hx hy hle h
end Flt
