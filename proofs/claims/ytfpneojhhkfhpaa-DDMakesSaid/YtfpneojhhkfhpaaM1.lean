/- Merged texts: Flt, Ieee, Ieee2, Ieee3, Rn, Flt2, Flt3, Flt4, Ord. -/
import Derived.Test.YtfpneojhhkfhpaaProg
import Derived.Laws.FloatArith
/- Floats of 53 bits as whole numbers (of the least unit): rounding to nearest, sums and what they lack. No program is named here. -/
namespace Flt

/-- a float: fewer than 54 bits, times a power of two -/
def FL (n : Int) : Prop := ∃ (m : Int) (e : Nat), n = m * 2 ^ e ∧ m.natAbs < 2 ^ 53
/-- z is a nearest float to n -/
structure Near (n z : Int) : Prop where
  fl : FL z
  le : ∀ y, FL y → (z - n).natAbs ≤ (y - n).natAbs

theorem two_pos (e : Nat) : (0 : Int) < 2 ^ e := Int.pow_pos (by decide)
theorem natAbs_two (e : Nat) : ((2 : Int) ^ e).natAbs = 2 ^ e := by rw [Int.natAbs_pow]; rfl
theorem two_lt {a b : Nat} (h : 2 ^ a < 2 ^ b) : a < b := (Nat.pow_lt_pow_iff_right (by decide)).1 h
theorem two_le {a b : Nat} (h : a ≤ b) : 2 ^ a ≤ 2 ^ b := Nat.pow_le_pow_right (by decide) h
theorem two_lt' {a b : Nat} (h : a < b) : 2 ^ a < 2 ^ b := Nat.pow_lt_pow_right (by decide) h

theorem fl_zero : FL 0 := ⟨0, 0, by simp, by decide⟩
theorem fl_neg {n : Int} (h : FL n) : FL (-n) := by
  obtain ⟨m, e, rfl, hm⟩ := h
  exact ⟨-m, e, by rw [Int.neg_mul], by rwa [Int.natAbs_neg]⟩
theorem Near.neg {n z : Int} (h : Near n z) : Near (-n) (-z) := by
  refine ⟨fl_neg h.fl, fun y hy => ?_⟩
  have h1 := h.le (-y) (fl_neg hy)
  omega
theorem fl_of {n : Int} {e : Nat} (hd : (2 : Int) ^ e ∣ n) (h : n.natAbs ≤ 2 ^ (53 + e)) : FL n := by
  obtain ⟨m, rfl⟩ := hd
  rw [Int.natAbs_mul, natAbs_two, Nat.pow_add, Nat.mul_comm] at h
  have hm : m.natAbs ≤ 2 ^ 53 := Nat.le_of_mul_le_mul_right h (Nat.pow_pos (by decide))
  by_cases hlt : m.natAbs < 2 ^ 53
  · exact ⟨m, e, by rw [Int.mul_comm], hlt⟩
  · have hm2 : m.natAbs = 2 ^ 53 := by omega
    rcases Int.natAbs_eq m with h1 | h1
    · refine ⟨1, e + 53, ?_, by decide⟩
      rw [h1, hm2, Int.pow_add, Int.one_mul]; rfl
    · refine ⟨-1, e + 53, ?_, by decide⟩
      rw [h1, hm2, Int.pow_add, Int.neg_mul, Int.one_mul, Int.mul_neg]; rfl
theorem dvd_of_ge {n : Int} {e : Nat} (h : FL n) (hge : 2 ^ (52 + e) ≤ n.natAbs) : (2 : Int) ^ e ∣ n := by
  obtain ⟨m, f, rfl, hm⟩ := h
  have hef : e ≤ f := by
    rw [Int.natAbs_mul, natAbs_two] at hge
    have h1 : m.natAbs * 2 ^ f < 2 ^ 53 * 2 ^ f := Nat.mul_lt_mul_of_pos_right hm (Nat.pow_pos (by decide))
    rw [← Nat.pow_add] at h1
    have := two_lt (Nat.lt_of_le_of_lt hge h1)
    omega
  obtain ⟨k, rfl⟩ : ∃ k, f = e + k := ⟨f - e, by omega⟩
  exact ⟨m * 2 ^ k, by rw [Int.pow_add]; ac_rfl⟩
/-- the exponent of the last bit -/
theorem canon {n : Int} (h : FL n) : ∃ e : Nat, (2 : Int) ^ e ∣ n ∧ n.natAbs < 2 ^ (53 + e) ∧ (e = 0 ∨ 2 ^ (52 + e) ≤ n.natAbs) := by
  by_cases hs : n.natAbs < 2 ^ 53
  · exact ⟨0, by simp, by simpa using hs, Or.inl rfl⟩
  · have hn0 : n.natAbs ≠ 0 := by
      intro hc; rw [hc] at hs; exact hs (by decide)
    have h1 := Nat.log2_self_le hn0
    have h2 := @Nat.lt_log2_self n.natAbs
    have h52 : 53 ≤ n.natAbs.log2 := (Nat.le_log2 hn0).2 (by omega)
    have e1 : 52 + (n.natAbs.log2 - 52) = n.natAbs.log2 := by omega
    have e2 : 53 + (n.natAbs.log2 - 52) = n.natAbs.log2 + 1 := by omega
    refine ⟨n.natAbs.log2 - 52, dvd_of_ge h (by rw [e1]; exact h1), by rw [e2]; exact h2, Or.inr (by rw [e1]; exact h1)⟩
theorem fl_small {n : Int} (h : n.natAbs ≤ 2 ^ 53) : FL n := fl_of (e := 0) (by simp) (by simpa using h)

theorem Near.self {n z : Int} (h : Near n z) (hf : FL n) : z = n := by
  have := h.le n hf
  omega
theorem Near.ge {n z y : Int} (h : Near n z) (hy : FL y) (hle : y ≤ n) : y ≤ z := by
  have := h.le y hy
  omega
theorem Near.le' {n z y : Int} (h : Near n z) (hy : FL y) (hle : n ≤ y) : z ≤ y := by
  have := h.le y hy
  omega
/-- the error: at most half the last place -/
theorem Near.err {n z : Int} {e : Nat} (h : Near n z) (hn : n.natAbs ≤ 2 ^ (54 + e)) : (z - n).natAbs ≤ 2 ^ e := by
  -- the multiple of 2^(e+1) that is nearest
  have hp := two_pos e
  have hpn : ((2 : Int) ^ e).natAbs = 2 ^ e := natAbs_two e
  have key : ∃ y : Int, (2 : Int) ^ (e + 1) ∣ y ∧ (y - n).natAbs ≤ 2 ^ e ∧ y.natAbs ≤ 2 ^ (54 + e) := by
    have hm := Int.mul_ediv_add_emod n (2 ^ (e + 1))
    have h0 := Int.emod_nonneg n (Int.ne_of_gt (two_pos (e + 1)))
    have h1 := Int.emod_lt_of_pos n (two_pos (e + 1))
    have ee : (2 : Int) ^ (e + 1) = 2 * 2 ^ e := by rw [Int.pow_succ, Int.mul_comm]
    have bnd : ∀ y : Int, (2 : Int) ^ (e + 1) ∣ y → (y - n).natAbs ≤ 2 ^ e → y.natAbs ≤ 2 ^ (54 + e) := by
      intro y ⟨k, hk⟩ hy
      refine Classical.byContradiction fun hc => ?_
      have e54 : (2 : Nat) ^ (54 + e) = 2 ^ 53 * 2 ^ (e + 1) := by rw [← Nat.pow_add]; congr 1; omega
      have hka : y.natAbs = k.natAbs * 2 ^ (e + 1) := by rw [hk, Int.natAbs_mul, natAbs_two, Nat.mul_comm]
      have hk53 : 2 ^ 53 < k.natAbs := by
        refine Classical.byContradiction fun hx => hc ?_
        rw [hka, e54]; exact Nat.mul_le_mul_right _ (by omega)
      have h5 : (2 ^ 53 + 1) * 2 ^ (e + 1) ≤ k.natAbs * 2 ^ (e + 1) := Nat.mul_le_mul_right _ (by omega)
      rw [Nat.add_mul, ← e54, Nat.one_mul, ← hka, Nat.pow_succ] at h5
      have hpp : 0 < 2 ^ e := Nat.pow_pos (by decide)
      omega
    by_cases hr : n % 2 ^ (e + 1) ≤ 2 ^ e
    · refine ⟨2 ^ (e + 1) * (n / 2 ^ (e + 1)), Int.dvd_mul_right _ _, by omega, bnd _ (Int.dvd_mul_right _ _) (by omega)⟩
    · refine ⟨2 ^ (e + 1) * (n / 2 ^ (e + 1) + 1), Int.dvd_mul_right _ _, ?_, bnd _ (Int.dvd_mul_right _ _) ?_⟩
      · rw [Int.mul_add, Int.mul_one]; omega
      · rw [Int.mul_add, Int.mul_one]; omega
  obtain ⟨y, hy1, hy2, hy3⟩ := key
  exact Nat.le_trans (h.le y (fl_of hy1 (by rw [show 53 + (e + 1) = 54 + e from by omega]; exact hy3))) hy2

/-- a number of last place e whose nearest float is not itself is great, and so is that float -/
theorem Near.great {n z : Int} {e : Nat} (h : Near n z) (hd : (2 : Int) ^ e ∣ n) (hne : z ≠ n) : 2 ^ (53 + e) ≤ n.natAbs ∧ 2 ^ (53 + e) ≤ z.natAbs := by
  have h1 : ¬ n.natAbs ≤ 2 ^ (53 + e) := fun hc => hne (h.self (fl_of hd hc))
  have hf : FL ((2 : Int) ^ (53 + e)) := fl_of (e := e) ⟨2 ^ 53, by rw [Int.pow_add, Int.mul_comm]⟩ (by rw [natAbs_two]; omega)
  have h2 := natAbs_two (53 + e)
  have hp := two_pos (53 + e)
  refine ⟨by omega, ?_⟩
  rcases Int.lt_or_le n 0 with hn | hn
  · have := h.neg.ge hf (by omega)
    omega
  · have := h.ge hf (by omega)
    omega
/-- the nearest float is a multiple, too -/
theorem Near.dvd {n z : Int} {e : Nat} (h : Near n z) (hd : (2 : Int) ^ e ∣ n) : (2 : Int) ^ e ∣ z := by
  by_cases hne : z = n
  · rw [hne]; exact hd
  · have := (h.great hd hne).2
    exact dvd_of_ge h.fl (Nat.le_trans (two_le (by omega)) this)

theorem two_dvd_of_le {e f : Nat} (h : e ≤ f) {n : Int} (hd : (2 : Int) ^ f ∣ n) : (2 : Int) ^ e ∣ n := by
  obtain ⟨k, rfl⟩ : ∃ k, f = e + k := ⟨f - e, by omega⟩
  exact Int.dvd_trans ⟨2 ^ k, by rw [Int.pow_add]⟩ hd

/-- what a sum lacks is a float -/
theorem err_fl {a b s : Int} (ha : FL a) (hb : FL b) (h : Near (a + b) s) : FL (a + b - s) := by
  have key : ∀ a b s : Int, FL a → FL b → b.natAbs ≤ a.natAbs → Near (a + b) s → FL (a + b - s) := by
    intro a b s ha hb hab h
    obtain ⟨e, hd, hlt, hc⟩ := canon hb
    have hda : (2 : Int) ^ e ∣ a := by
      rcases hc with rfl | hc
      · simp
      · exact dvd_of_ge ha (by omega)
    have hds := h.dvd (Int.dvd_add hda hd)
    have hle := h.le a ha
    exact fl_of (Int.dvd_sub (Int.dvd_add hda hd) hds) (by omega)
  rcases Nat.le_total b.natAbs a.natAbs with hab | hab
  · exact key a b s ha hb hab h
  · have := key b a s hb ha hab (by rwa [Int.add_comm])
    rwa [Int.add_comm b a] at this

/-- the greater part taken from a sum leaves a float -/
theorem fast_fl {x y z : Int} (hx : FL x) (hy : FL y) (hle : y.natAbs ≤ x.natAbs) (h : Near (x + y) z) : FL (z - x) := by
  have key : ∀ x y z : Int, 0 ≤ x → FL x → FL y → y.natAbs ≤ x.natAbs → Near (x + y) z → FL (z - x) := by
    intro x y z x0 hx hy hle h
    by_cases hez : z = x + y
    · have : z - x = y := by omega
      rw [this]; exact hy
    obtain ⟨f, hdf, hf, hcf⟩ := canon hy
    obtain ⟨e, hde, he, hce⟩ := canon hx
    by_cases e0 : e = 0
    · subst e0
      have h2 : 2 ^ (53 + 0) = 9007199254740992 := rfl
      have h4 := h.err (e := 0) (by have : 2 ^ (54 + 0) = 18014398509481984 := rfl
                                    omega)
      refine fl_small ?_
      have h5 : (2 : Nat) ^ 53 = 9007199254740992 := rfl
      have h6 : (2 : Nat) ^ 0 = 1 := rfl
      omega
    obtain ⟨g, rfl⟩ : ∃ g, e = g + 1 := ⟨e - 1, by omega⟩
    clear e0
    have hce : 2 ^ (52 + (g + 1)) ≤ x.natAbs := by
      rcases hce with h1 | h1
      · omega
      · exact h1
    have p1 : (2 : Nat) ^ (g + 1) = 2 * 2 ^ g := by rw [Nat.pow_succ, Nat.mul_comm]
    have p52 : (2 : Nat) ^ (52 + (g + 1)) = 9007199254740992 * 2 ^ g := by rw [show 52 + (g + 1) = 53 + g from by omega, Nat.pow_add]
    have p53 : (2 : Nat) ^ (53 + (g + 1)) = 18014398509481984 * 2 ^ g := by rw [show 53 + (g + 1) = 54 + g from by omega, Nat.pow_add]
    have hpos : 0 < 2 ^ g := Nat.pow_pos (by decide)
    -- x is at most (2^53 - 1) * 2^(g+1)
    have hx1 : x.natAbs + 2 * 2 ^ g ≤ 18014398509481984 * 2 ^ g := by
      obtain ⟨k, hk⟩ := hde
      have hka : x.natAbs = k.natAbs * (2 * 2 ^ g) := by rw [hk, Int.natAbs_mul, natAbs_two, p1, Nat.mul_comm]
      have hk53 : k.natAbs < 9007199254740992 := by
        refine Classical.byContradiction fun hc => ?_
        have : 9007199254740992 * (2 * 2 ^ g) ≤ k.natAbs * (2 * 2 ^ g) := Nat.mul_le_mul_right _ (by omega)
        omega
      have : (k.natAbs + 1) * (2 * 2 ^ g) ≤ 9007199254740992 * (2 * 2 ^ g) := Nat.mul_le_mul_right _ hk53
      rw [Nat.add_mul, Nat.one_mul, ← hka] at this
      omega
    by_cases hy0 : 0 ≤ y
    · -- the sum is no less than x
      have hzx := h.ge hx (by omega)
      have hdz : (2 : Int) ^ (g + 1) ∣ z := dvd_of_ge h.fl (by omega)
      have herr := h.err (e := g + 1) (by
        rw [show 54 + (g + 1) = 55 + g from by omega, Nat.pow_add]
        have : (2 : Nat) ^ 55 = 36028797018963968 := rfl
        rw [this]; omega)
      refine fl_of (Int.dvd_sub hdz hde) ?_
      omega
    · by_cases hhalf : 2 * y.natAbs ≤ x.natAbs
      · -- the sum is no less than half of x
        have hhx : FL ((2 : Int) ^ (52 + g)) := fl_of (e := g) ⟨2 ^ 52, by rw [Int.pow_add, Int.mul_comm]⟩ (by rw [natAbs_two]; exact two_le (by omega))
        have q52 : (2 : Int) ^ (52 + g) = 4503599627370496 * 2 ^ g := by rw [Int.pow_add]; rfl
        have pc : ((2 ^ g : Nat) : Int) = (2 : Int) ^ g := by rw [Int.natCast_pow]; rfl
        have hz1 := h.ge hhx (by omega)
        have hzx := h.le' hx (by omega)
        have hdz : (2 : Int) ^ g ∣ z := dvd_of_ge h.fl (by
          have : (2 : Nat) ^ (52 + g) = 4503599627370496 * 2 ^ g := by rw [Nat.pow_add]
          omega)
        have herr := h.err (e := g) (by rw [Nat.pow_add]; have : (2 : Nat) ^ 54 = 18014398509481984 := rfl
                                        rw [this]; omega)
        refine fl_of (Int.dvd_sub hdz (two_dvd_of_le (by omega) hde)) ?_
        have : (2 : Nat) ^ (53 + g) = 9007199254740992 * 2 ^ g := by rw [Nat.pow_add]
        omega
      · -- the sum is exact
        exfalso
        refine hez (h.self ?_)
        have hdx : (2 : Int) ^ f ∣ x := by
          rcases hcf with h1 | h1
          · rw [h1]; simp
          · exact dvd_of_ge hx (by omega)
        exact fl_of (Int.dvd_add hdx hdf) (by omega)
  rcases Int.lt_or_le x 0 with hx0 | hx0
  · have := key (-x) (-y) (-z) (by omega) (fl_neg hx) (fl_neg hy) (by omega) (by have := h.neg
                                                                                 rwa [Int.neg_add] at this)
    have e : -(-z - -x) = z - x := by omega
    rw [← e]; exact fl_neg this
  · exact key x y z hx0 hx hy hle h
end Flt

/- The float operations of the model, in whole numbers of the least unit: finite words, what they stand for, rounding, sums, products, order. No program is named here. -/
namespace Flt
open Ieee

/-- the number that stands there, in units of 2^-1074 -/
def sval (s : Bool) (m : Nat) (i : Int) : Int := signed s m (i + 1074).toNat
theorem signed_eq (s : Bool) (m u : Nat) : signed s m u = (if s then -((m : Int) * 2 ^ u) else (m : Int) * 2 ^ u) := by
  unfold signed
  rw [Nat.shiftLeft_eq, Int.natCast_mul, Int.natCast_pow]
  rfl
theorem signed_abs (s : Bool) (m u : Nat) : (signed s m u).natAbs = m * 2 ^ u := by
  rw [signed_eq]
  have h : ((m : Int) * 2 ^ u).natAbs = m * 2 ^ u := by rw [Int.natAbs_mul, natAbs_two]; rfl
  cases s
  · exact h
  · show (-((m : Int) * 2 ^ u)).natAbs = _
    rw [Int.natAbs_neg]; exact h

/-- x is the word of a finite float that is n units -/
structure Num (x : Nat) (n : Int) : Prop where
  lt : x < 2 ^ 64
  ex : ∃ s m i, double.read x = .number s m i ∧ -1074 ≤ i ∧ i ≤ 971 ∧ m < 2 ^ 53 ∧ n = sval s m i

theorem Num.fl {x : Nat} {n : Int} (h : Num x n) : FL n := by
  obtain ⟨s, m, i, _, h1, _, h3, rfl⟩ := h.ex
  unfold sval
  rw [signed_eq]
  cases s
  · exact ⟨m, (i + 1074).toNat, rfl, h3⟩
  · exact ⟨-m, (i + 1074).toNat, by rw [Int.neg_mul]; rfl, by rw [Int.natAbs_neg]; exact h3⟩

theorem least : double.leastPlace = -1074 := by decide
theorem binade_eq : double.binade = 4503599627370496 := by decide
theorem inf_eq : double.infRung = 9218868437227405312 := by decide
theorem weight_eq : double.signWeight = 9223372036854775808 := by decide
theorem fraction_eq : double.fractionBits = 52 := by decide

theorem read_small {x : Nat} (h : x % 9223372036854775808 < 4503599627370496) : double.read x = .number (x / 9223372036854775808 % 2 == 1) (x % 9223372036854775808) (-1074) := by
  unfold Format.read
  rw [weight_eq, binade_eq, least]
  simp only [h, if_true]
theorem read_mid {x : Nat} (h1 : ¬ x % 9223372036854775808 < 4503599627370496) (h : x % 9223372036854775808 < 9218868437227405312) :
    double.read x = .number (x / 9223372036854775808 % 2 == 1) (4503599627370496 + x % 9223372036854775808 % 4503599627370496) (-1074 + (x % 9223372036854775808 / 4503599627370496 - 1 : Nat)) := by
  unfold Format.read
  rw [weight_eq, binade_eq, inf_eq, least]
  simp only [h1, h, if_true, if_false]
/-- what a word stands for, in units; of what isn't finite 0 -/
def vI (x : Nat) : Int := match double.read x with
  | .number s m i => sval s m i
  | _ => 0
theorem Num.val {x : Nat} {n : Int} (h : Num x n) : vI x = n := by
  obtain ⟨s, m, i, hr, _, _, _, rfl⟩ := h.ex
  unfold vI
  rw [hr]
theorem Num.unique {x : Nat} {n k : Int} (h : Num x n) (h' : Num x k) : n = k := by rw [← h.val, ← h'.val]
/-- a finite word -/
theorem num_of {x : Nat} (h : x < 2 ^ 64) (hf : x % 9223372036854775808 < 9218868437227405312) : Num x (vI x) := by
  have key : ∃ n, Num x n := by
    by_cases h1 : x % 9223372036854775808 < 4503599627370496
    · exact ⟨_, h, _, _, _, read_small h1, by omega, by omega, by omega, rfl⟩
    · exact ⟨_, h, _, _, _, read_mid h1 hf, by omega, by omega, by omega, rfl⟩
  obtain ⟨n, hn⟩ := key
  rw [hn.val]; exact hn
theorem Num.fin {x : Nat} {n : Int} (h : Num x n) : x % 9223372036854775808 < 9218868437227405312 := by
  obtain ⟨s, m, i, hr, _⟩ := h.ex
  refine Classical.byContradiction fun hc => ?_
  unfold Format.read at hr
  rw [weight_eq, binade_eq, inf_eq] at hr
  have h1 : ¬ x % 9223372036854775808 < 4503599627370496 := by omega
  simp only [h1, hc, if_false] at hr
  split at hr <;> cases hr

theorem log2_shift {m : Nat} (hm : m ≠ 0) (d : Nat) : (m * 2 ^ d).log2 = m.log2 + d := by
  have h1 := Nat.log2_self_le hm
  have h2 := @Nat.lt_log2_self m
  have hpos : 0 < 2 ^ d := Nat.pow_pos (by decide)
  have hne : m * 2 ^ d ≠ 0 := Nat.mul_ne_zero hm (by omega)
  refine (Nat.log2_eq_iff hne).2 ⟨?_, ?_⟩
  · rw [Nat.pow_add]; exact Nat.mul_le_mul_right _ h1
  · rw [show m.log2 + d + 1 = m.log2 + 1 + d from by omega, Nat.pow_add]; exact Nat.mul_lt_mul_of_pos_right h2 hpos

theorem cut_zero (s : Bool) (n : Nat) : Toward.even.cut s n 0 = n := by
  unfold Toward.cut
  simp [Nat.mod_one]
theorem tie_bool (A R Q : Nat) : (decide (A < R) || (A == R && Q == 1)).toNat = if A < R ∨ (A = R ∧ Q = 1) then 1 else 0 := by
  by_cases h1 : A < R
  · simp [h1]
  · by_cases h2 : A = R
    · by_cases h3 : Q = 1
      · simp [h2, h3]
      · simp [h2, h3]
    · simp [h1, h2]
theorem cut_some (s : Bool) (n drop : Nat) (h : drop ≤ n.log2 + 2) : Toward.even.cut s n drop = n / 2 ^ drop + (if 2 ^ drop < 2 * (n % 2 ^ drop) ∨ (2 ^ drop = 2 * (n % 2 ^ drop) ∧ n / 2 ^ drop % 2 = 1) then 1 else 0) := by
  unfold Toward.cut
  rw [Nat.min_eq_left h, Nat.shiftLeft_eq, Nat.one_mul]
  exact congrArg (n / 2 ^ drop + ·) (tie_bool (2 ^ drop) (2 * (n % 2 ^ drop)) (n / 2 ^ drop % 2))

/-- a word read back -/
theorem read_word (s : Bool) (k kept : Nat) (hk : kept ≤ 2 ^ 53) (hlow : k = 0 ∨ 2 ^ 52 ≤ kept) (hk2 : k ≤ 2044) : Num (double.word s (k * 4503599627370496 + kept)) (if s then -((kept : Int) * 2 ^ k) else (kept : Int) * 2 ^ k) ∧ k * 4503599627370496 + kept < 9218868437227405312 := by
  have h53 : (2 : Nat) ^ 53 = 9007199254740992 := rfl
  have h52 : (2 : Nat) ^ 52 = 4503599627370496 := rfl
  have hr : k * 4503599627370496 + kept < 9218868437227405312 := by omega
  refine ⟨⟨?_, ?_⟩, hr⟩
  · unfold Format.word
    rw [weight_eq]
    have : (2 : Nat) ^ 64 = 18446744073709551616 := rfl
    split <;> omega
  · have hread : double.read (double.word s (k * 4503599627370496 + kept)) =
        (if k * 4503599627370496 + kept < 4503599627370496 then .number s (k * 4503599627370496 + kept) (-1074)
         else .number s (4503599627370496 + (k * 4503599627370496 + kept) % 4503599627370496) (-1074 + ((k * 4503599627370496 + kept) / 4503599627370496 - 1 : Nat))) := by
      unfold Format.read Format.word
      rw [weight_eq, binade_eq, inf_eq, least]
      have e1 : (if s = true then 9223372036854775808 + (k * 4503599627370496 + kept) else k * 4503599627370496 + kept) % 9223372036854775808 = k * 4503599627370496 + kept := by
        cases s
        · simp only [Bool.false_eq_true, if_false]; omega
        · simp only [if_true]; omega
      have e2 : ((if s = true then 9223372036854775808 + (k * 4503599627370496 + kept) else k * 4503599627370496 + kept) / 9223372036854775808 % 2 == 1) = s := by
        cases s
        · simp only [Bool.false_eq_true, if_false]
          have : (k * 4503599627370496 + kept) / 9223372036854775808 = 0 := by omega
          rw [this]; rfl
        · simp only [if_true]
          have : (9223372036854775808 + (k * 4503599627370496 + kept)) / 9223372036854775808 = 1 := by omega
          rw [this]; rfl
      simp only [e1, e2, hr, if_true]
    by_cases c1 : k * 4503599627370496 + kept < 4503599627370496
    · rw [if_pos c1] at hread
      have k0 : k = 0 := by omega
      subst k0
      refine ⟨_, _, _, hread, by omega, by omega, by omega, ?_⟩
      unfold sval
      rw [signed_eq]; simp
    · rw [if_neg c1] at hread
      by_cases c2 : kept = 9007199254740992
      · subst c2
        have e3 : (k * 4503599627370496 + 9007199254740992) / 4503599627370496 - 1 = k + 1 := by omega
        have e4 : (k * 4503599627370496 + 9007199254740992) % 4503599627370496 = 0 := by omega
        rw [e3, e4] at hread
        refine ⟨_, _, _, hread, by omega, by omega, by omega, ?_⟩
        unfold sval
        rw [signed_eq, show (-1074 + ((k + 1 : Nat) : Int) + 1074).toNat = k + 1 from by omega, Int.pow_succ]
        have e5 : ((4503599627370496 + 0 : Nat) : Int) * (2 ^ k * 2) = ((9007199254740992 : Nat) : Int) * 2 ^ k := by
          rw [Int.mul_comm (2 ^ k) 2, ← Int.mul_assoc]; rfl
        rw [e5]
      · have e3 : (k * 4503599627370496 + kept) / 4503599627370496 - 1 = k := by omega
        have e4 : 4503599627370496 + (k * 4503599627370496 + kept) % 4503599627370496 = kept := by omega
        rw [e3, e4] at hread
        refine ⟨_, _, _, hread, by omega, by omega, by omega, ?_⟩
        unfold sval
        rw [signed_eq, show (-1074 + ((k : Nat) : Int) + 1074).toNat = k from by omega]
end Flt

/- The float operations of the model, in whole numbers of the least unit: rounding, sums, products, order. No program is named here. -/
namespace Flt
open Ieee

/-- the cut is the nearest multiple -/
theorem nearest_mult (mag g c : Nat) (hg : 0 < g) (hc : c = mag / g + (if g < 2 * (mag % g) ∨ (g = 2 * (mag % g) ∧ mag / g % 2 = 1) then 1 else 0)) (j : Int) : ((c : Int) * g - mag).natAbs ≤ (j * g - mag).natAbs := by
  have hm : ((mag / g : Nat) : Int) * (g : Int) + ((mag % g : Nat) : Int) = (mag : Int) := by
    rw [← Int.natCast_mul, Nat.mul_comm]; exact_mod_cast Nat.div_add_mod mag g
  have hr := Nat.mod_lt mag hg
  obtain ⟨q, hq⟩ : ∃ q, q = mag / g := ⟨_, rfl⟩
  obtain ⟨r, hrr⟩ : ∃ r, r = mag % g := ⟨_, rfl⟩
  rw [← hq, ← hrr] at hc hm
  rw [← hrr] at hr
  have hj : (j * g : Int) ≤ (q : Int) * g ∨ ((q : Int) + 1) * g ≤ j * g := by
    rcases Int.lt_or_le j ((q : Int) + 1) with h | h
    · exact Or.inl (Int.mul_le_mul_of_nonneg_right (by omega) (by omega))
    · exact Or.inr (Int.mul_le_mul_of_nonneg_right h (by omega))
  rw [Int.add_mul, Int.one_mul] at hj
  by_cases hP : g < 2 * r ∨ (g = 2 * r ∧ q % 2 = 1)
  · rw [if_pos hP] at hc
    rw [hc, Int.natCast_add, Int.add_mul]
    generalize (q : Int) * (g : Int) = Q at *
    generalize j * (g : Int) = J at *
    have : ((1 : Nat) : Int) * (g : Int) = g := by simp
    rw [this]
    omega
  · rw [if_neg hP, Nat.add_zero] at hc
    rw [hc]
    generalize (q : Int) * (g : Int) = Q at *
    generalize j * (g : Int) = J at *
    omega
theorem near_cut (mag d drop c : Nat) (hq : 2 ^ 52 ≤ mag / 2 ^ drop) (hq2 : mag / 2 ^ drop < 2 ^ 53) (hc : c = mag / 2 ^ drop + (if 2 ^ drop < 2 * (mag % 2 ^ drop) ∨ (2 ^ drop = 2 * (mag % 2 ^ drop) ∧ mag / 2 ^ drop % 2 = 1) then 1 else 0)) :
    Near ((mag : Int) * 2 ^ d) ((c : Int) * 2 ^ (d + drop)) := by
  have hg : 0 < 2 ^ drop := Nat.pow_pos (by decide)
  have hmult := nearest_mult mag (2 ^ drop) c hg hc
  have cg : ((2 ^ drop : Nat) : Int) = (2 : Int) ^ drop := by rw [Int.natCast_pow]; rfl
  rw [cg] at hmult
  have hcle : c ≤ 2 ^ 53 := by split at hc <;> omega
  have ez : ∀ j : Int, j * 2 ^ (d + drop) - (mag : Int) * 2 ^ d = (j * 2 ^ drop - mag) * 2 ^ d := fun j => by
    rw [Int.sub_mul, show d + drop = drop + d from by omega, Int.pow_add, ← Int.mul_assoc]
  have ea : ∀ j : Int, (j * 2 ^ (d + drop) - (mag : Int) * 2 ^ d).natAbs = (j * 2 ^ drop - mag).natAbs * 2 ^ d := fun j => by
    rw [ez, Int.natAbs_mul, natAbs_two]
  refine ⟨fl_of (e := d + drop) (Int.dvd_mul_left _ _) ?_, fun y hy => ?_⟩
  · rw [Int.natAbs_mul, natAbs_two, Nat.pow_add 2 53]
    exact Nat.mul_le_mul_right _ hcle
  · rw [ea]
    by_cases hbig : 2 ^ (52 + (d + drop)) ≤ y.natAbs
    · obtain ⟨j, hj⟩ := dvd_of_ge hy hbig
      rw [hj, Int.mul_comm (2 ^ (d + drop)) j, ea]
      exact Nat.mul_le_mul_right _ (hmult j)
    · have h1 := hmult (2 ^ 52)
      have h2 : (((c : Int) * 2 ^ drop - mag).natAbs) * 2 ^ d ≤ (((2 : Int) ^ 52 * 2 ^ drop - mag).natAbs) * 2 ^ d := Nat.mul_le_mul_right _ h1
      refine Nat.le_trans h2 ?_
      rw [← ea]
      have h3 : (2 : Nat) ^ 52 * 2 ^ drop ≤ mag := by
        have := Nat.div_mul_le_self mag (2 ^ drop)
        exact Nat.le_trans (Nat.mul_le_mul_right _ hq) this
      have h4 : (2 : Nat) ^ (52 + (d + drop)) ≤ mag * 2 ^ d := by
        have := Nat.mul_le_mul_right (2 ^ d) h3
        rw [← Nat.pow_add, ← Nat.pow_add] at this
        rw [show 52 + (d + drop) = 52 + drop + d from by omega]; exact this
      have h5 : (2 : Int) ^ 52 * 2 ^ (d + drop) = (((2 : Nat) ^ (52 + (d + drop)) : Nat) : Int) := by
        rw [← Int.pow_add, Int.natCast_pow]; rfl
      have h6 : (mag : Int) * 2 ^ d = ((mag * 2 ^ d : Nat) : Int) := by rw [Int.natCast_mul, Int.natCast_pow]; rfl
      rw [h5, h6]
      omega

/-- far below the greatest float -/
def top : Nat := 2097
/-- to the nearest word -/
theorem nearest_num (s : Bool) (mag : Nat) (place : Int) (hp : mag = 0 ∨ -1074 ≤ place) (hb : mag * 2 ^ (place + 1074).toNat < 2 ^ top) :
    ∃ z, Num (double.nearest s mag place) z ∧ Near (sval s mag place) z := by
  by_cases h0 : mag = 0
  · subst h0
    have hr := (read_word s 0 0 (by decide) (Or.inl rfl) (by decide)).1
    have ez : (if s then -(((0 : Nat) : Int) * 2 ^ 0) else ((0 : Nat) : Int) * 2 ^ 0) = 0 := by cases s <;> rfl
    rw [ez] at hr
    refine ⟨0, ?_, ?_⟩
    · unfold Format.nearest
      rw [if_pos rfl]
      exact hr
    · have : sval s 0 place = 0 := by
        unfold sval
        rw [signed_eq]; cases s <;> simp
      rw [this]
      exact ⟨fl_zero, fun y _ => by omega⟩
  · have hp : -1074 ≤ place := by rcases hp with h | h
                                  · exact absurd h h0
                                  · exact h
    obtain ⟨d, hd⟩ : ∃ d : Nat, place = (d : Int) - 1074 := ⟨(place + 1074).toNat, by omega⟩
    subst hd
    rw [show ((d : Int) - 1074 + 1074).toNat = d from by omega] at hb
    have hsv : sval s mag ((d : Int) - 1074) = (if s then -((mag : Int) * 2 ^ d) else (mag : Int) * 2 ^ d) := by
      unfold sval
      rw [signed_eq, show ((d : Int) - 1074 + 1074).toNat = d from by omega]
    rw [hsv]
    have hlo := Nat.log2_self_le h0
    have hhi := @Nat.lt_log2_self mag
    -- the rung
    have key : ∃ k c : Nat, double.nearest s mag ((d : Int) - 1074) = double.word s (min (k * 4503599627370496 + c) 9218868437227405312) ∧ c ≤ 2 ^ 53 ∧ (k = 0 ∨ 2 ^ 52 ≤ c) ∧ k ≤ 2044 ∧ Near ((mag : Int) * 2 ^ d) ((c : Int) * 2 ^ k) := by
      have hkd : d + mag.log2 < 2097 := by
        have h1 : 2 ^ (mag.log2 + d) ≤ mag * 2 ^ d := by rw [Nat.pow_add]; exact Nat.mul_le_mul_right _ hlo
        have := two_lt (Nat.lt_of_le_of_lt h1 hb)
        have ht : top = 2097 := rfl
        omega
      unfold Format.nearest
      rw [if_neg h0, least, binade_eq, inf_eq, fraction_eq]
      by_cases c1 : d + mag.log2 ≤ 52
      · have e1 : max ((d : Int) - 1074 + (mag.log2 : Int) - ((52 : Nat) : Int)) (-1074) = -1074 := by omega
        refine ⟨0, mag * 2 ^ d, ?_, ?_, Or.inl rfl, by omega, ?_⟩
        · simp only [e1]
          rw [show (-1074 - ((d : Int) - 1074)).toNat = 0 from by omega, cut_zero, show ((d : Int) - 1074 - -1074).toNat = d from by omega, Nat.shiftLeft_eq]
          rfl
        · have h1 : mag * 2 ^ d < 2 ^ (mag.log2 + 1) * 2 ^ d := Nat.mul_lt_mul_of_pos_right hhi (Nat.pow_pos (by decide))
          rw [← Nat.pow_add] at h1
          exact Nat.le_of_lt (Nat.lt_of_lt_of_le h1 (two_le (by omega)))
        · have h1 : mag * 2 ^ d < 2 ^ (mag.log2 + 1) * 2 ^ d := Nat.mul_lt_mul_of_pos_right hhi (Nat.pow_pos (by decide))
          rw [← Nat.pow_add] at h1
          have e3 : ((mag * 2 ^ d : Nat) : Int) * 2 ^ 0 = (mag : Int) * 2 ^ d := by rw [Int.pow_zero, Int.mul_one, Int.natCast_mul, Int.natCast_pow]; rfl
          rw [e3]
          refine ⟨fl_small ?_, fun y _ => by omega⟩
          rw [Int.natAbs_mul, natAbs_two]
          exact Nat.le_of_lt (Nat.lt_of_lt_of_le h1 (two_le (by omega)))
      · have e1 : max ((d : Int) - 1074 + (mag.log2 : Int) - ((52 : Nat) : Int)) (-1074) = ((d + mag.log2 - 52 : Nat) : Int) - 1074 := by omega
        by_cases c2 : mag.log2 ≤ 52
        · refine ⟨d + mag.log2 - 52, mag * 2 ^ (52 - mag.log2), ?_, ?_, Or.inr ?_, by omega, ?_⟩
          · simp only [e1]
            rw [show (((d + mag.log2 - 52 : Nat) : Int) - 1074 - ((d : Int) - 1074)).toNat = 0 from by omega, cut_zero, show ((d : Int) - 1074 - (((d + mag.log2 - 52 : Nat) : Int) - 1074)).toNat = 52 - mag.log2 from by omega, Nat.shiftLeft_eq,
              show (((d + mag.log2 - 52 : Nat) : Int) - 1074 - -1074).toNat = d + mag.log2 - 52 from by omega]
          · have h1 : mag * 2 ^ (52 - mag.log2) < 2 ^ (mag.log2 + 1) * 2 ^ (52 - mag.log2) := Nat.mul_lt_mul_of_pos_right hhi (Nat.pow_pos (by decide))
            rw [← Nat.pow_add] at h1
            exact Nat.le_of_lt (Nat.lt_of_lt_of_le h1 (two_le (by omega)))
          · have h1 : 2 ^ mag.log2 * 2 ^ (52 - mag.log2) ≤ mag * 2 ^ (52 - mag.log2) := Nat.mul_le_mul_right _ hlo
            rw [← Nat.pow_add] at h1
            exact Nat.le_trans (two_le (by omega)) h1
          · have e3 : ((mag * 2 ^ (52 - mag.log2) : Nat) : Int) * 2 ^ (d + mag.log2 - 52) = (mag : Int) * 2 ^ d := by
              rw [Int.natCast_mul, Int.natCast_pow, Int.mul_assoc]
              have : (((2 : Nat) : Int) ^ (52 - mag.log2)) * 2 ^ (d + mag.log2 - 52) = (2 : Int) ^ d := by
                show (2 : Int) ^ (52 - mag.log2) * 2 ^ (d + mag.log2 - 52) = _
                rw [← Int.pow_add]; congr 1; omega
              rw [this]
            rw [e3]
            have h1 : mag < 2 ^ 53 := Nat.lt_of_lt_of_le hhi (two_le (by omega))
            refine ⟨⟨mag, d, rfl, h1⟩, fun y _ => by omega⟩
        · have hdrop : mag.log2 - 52 ≤ mag.log2 + 2 := by omega
          have q1 : 2 ^ 52 ≤ mag / 2 ^ (mag.log2 - 52) := by
            refine (Nat.le_div_iff_mul_le (Nat.pow_pos (by decide))).2 ?_
            rw [← Nat.pow_add, show 52 + (mag.log2 - 52) = mag.log2 from by omega]; exact hlo
          have q2 : mag / 2 ^ (mag.log2 - 52) < 2 ^ 53 := by
            refine (Nat.div_lt_iff_lt_mul (Nat.pow_pos (by decide))).2 ?_
            rw [← Nat.pow_add, show 53 + (mag.log2 - 52) = mag.log2 + 1 from by omega]; exact hhi
          have hN := near_cut mag d (mag.log2 - 52) _ q1 q2 rfl
          refine ⟨d + (mag.log2 - 52), _, ?_, ?_, Or.inr ?_, by omega, hN⟩
          · simp only [e1]
            rw [show (((d + mag.log2 - 52 : Nat) : Int) - 1074 - ((d : Int) - 1074)).toNat = mag.log2 - 52 from by omega, show ((d : Int) - 1074 - (((d + mag.log2 - 52 : Nat) : Int) - 1074)).toNat = 0 from by omega, Nat.shiftLeft_zero, cut_some s mag _ hdrop,
              show (((d + mag.log2 - 52 : Nat) : Int) - 1074 - -1074).toNat = d + (mag.log2 - 52) from by omega]
          · split <;> omega
          · split <;> omega
    obtain ⟨k, c, e, hc, hl, hk, hN⟩ := key
    obtain ⟨hR, hlt⟩ := read_word s k c hc hl hk
    rw [e, Nat.min_eq_left (Nat.le_of_lt hlt)]
    refine ⟨_, hR, ?_⟩
    cases s
    · exact hN
    · exact hN.neg

theorem signed_scale (s : Bool) (m a b : Nat) : signed s m (a + b) = signed s m a * 2 ^ b := by
  rw [signed_eq, signed_eq, Int.pow_add, ← Int.mul_assoc]
  cases s
  · rfl
  · show -((m : Int) * 2 ^ a * 2 ^ b) = -((m : Int) * 2 ^ a) * 2 ^ b
    rw [Int.neg_mul]
theorem signed_total (t : Int) (k : Nat) : signed (decide (t < 0)) t.natAbs k = t * 2 ^ k := by
  rw [signed_eq]
  by_cases h : t < 0
  · simp only [h, decide_true, if_true]
    rw [← Int.neg_mul]; congr 1; omega
  · simp only [h, decide_false, Bool.false_eq_true, if_false]
    congr 1; omega

/-- the sum of two numbers, to the nearest -/
theorem sum_num {s t : Bool} {m n : Nat} {i j : Int} (hi : -1074 ≤ i) (hj : -1074 ≤ j) (hb : (sval s m i + sval t n j).natAbs < 2 ^ top) :
    ∃ r z, ((Datum.number s m i).sum (.number t n j)).map double.write = some r ∧ Num r z ∧ Near (sval s m i + sval t n j) z := by
  obtain ⟨base, hbase⟩ : ∃ base, base = min i j := ⟨_, rfl⟩
  have hb0 : -1074 ≤ base := by omega
  have ei : sval s m i = signed s m (i - base).toNat * 2 ^ (base + 1074).toNat := by
    unfold sval
    rw [← signed_scale]; congr 1; omega
  have ej : sval t n j = signed t n (j - base).toNat * 2 ^ (base + 1074).toNat := by
    unfold sval
    rw [← signed_scale]; congr 1; omega
  obtain ⟨T, hT⟩ : ∃ T, T = signed s m (i - base).toNat + signed t n (j - base).toNat := ⟨_, rfl⟩
  have eT : sval s m i + sval t n j = T * 2 ^ (base + 1074).toNat := by rw [ei, ej, hT, Int.add_mul]
  rw [eT] at hb ⊢
  have hw : ((Datum.number s m i).sum (.number t n j)).map double.write = some (double.nearest (if T = 0 then s && t else decide (T < 0)) T.natAbs base) := by
    rw [hT, hbase]; rfl
  rw [Int.natAbs_mul, natAbs_two] at hb
  obtain ⟨z, h1, h2⟩ := nearest_num (if T = 0 then s && t else decide (T < 0)) T.natAbs base (Or.inr hb0) hb
  refine ⟨_, z, hw, h1, ?_⟩
  have : sval (if T = 0 then s && t else decide (T < 0)) T.natAbs base = T * 2 ^ (base + 1074).toNat := by
    unfold sval
    by_cases h0 : T = 0
    · subst h0
      rw [signed_eq]; cases s <;> cases t <;> simp
    · rw [if_neg h0]; exact signed_total _ _
  rw [this] at h2
  exact h2
theorem add_num {x y : Nat} {a b : Int} (hx : Num x a) (hy : Num y b) (hb : (a + b).natAbs < 2 ^ top) : ∃ r z, double.add x y = some r ∧ Num r z ∧ Near (a + b) z := by
  obtain ⟨s, m, i, hr, h1, _, _, rfl⟩ := hx.ex
  obtain ⟨t, n, j, hr', h1', _, _, rfl⟩ := hy.ex
  unfold Format.add
  rw [hr, hr']
  exact sum_num h1 h1' hb
theorem sval_not (s : Bool) (m : Nat) (i : Int) : sval (!s) m i = - sval s m i := by
  unfold sval
  rw [signed_eq, signed_eq]
  cases s <;> simp
theorem sub_num {x y : Nat} {a b : Int} (hx : Num x a) (hy : Num y b) (hb : (a - b).natAbs < 2 ^ top) : ∃ r z, double.sub x y = some r ∧ Num r z ∧ Near (a - b) z := by
  obtain ⟨s, m, i, hr, h1, _, _, rfl⟩ := hx.ex
  obtain ⟨t, n, j, hr', h1', _, _, rfl⟩ := hy.ex
  unfold Format.sub
  rw [hr, hr']
  have e : sval s m i - sval t n j = sval s m i + sval (!t) n j := by rw [sval_not]; omega
  rw [e] at hb ⊢
  exact sum_num h1 h1' hb

/-- the order of two numbers -/
theorem order_num {x y : Nat} {a b : Int} (hx : Num x a) (hy : Num y b) : double.order x y = some (compare a b) := by
  obtain ⟨s, m, i, hr, h1, _, _, rfl⟩ := hx.ex
  obtain ⟨t, n, j, hr', h1', _, _, rfl⟩ := hy.ex
  unfold Format.order
  rw [hr, hr']
  show some (compare (signed s m (i - min i j).toNat) (signed t n (j - min i j).toNat)) = _
  obtain ⟨base, hbase⟩ : ∃ base, base = min i j := ⟨_, rfl⟩
  rw [← hbase]
  have ei : sval s m i = signed s m (i - base).toNat * 2 ^ (base + 1074).toNat := by
    unfold sval
    rw [← signed_scale]; congr 1; omega
  have ej : sval t n j = signed t n (j - base).toNat * 2 ^ (base + 1074).toNat := by
    unfold sval
    rw [← signed_scale]; congr 1; omega
  rw [ei, ej]
  have hp := two_pos (base + 1074).toNat
  generalize signed s m (i - base).toNat = p
  generalize signed t n (j - base).toNat = q
  generalize (2 : Int) ^ (base + 1074).toNat = K at hp
  congr 1
  rcases Int.lt_trichotomy p q with h | h | h
  · have h2 : p * K < q * K := Int.mul_lt_mul_of_pos_right h hp
    rw [show compare p q = .lt from by simp [compare, compareOfLessAndEq, h], show compare (p * K) (q * K) = .lt from by simp [compare, compareOfLessAndEq, h2]]
  · subst h
    rw [show compare p p = .eq from by simp [compare, compareOfLessAndEq], show compare (p * K) (p * K) = .eq from by simp [compare, compareOfLessAndEq]]
  · have h2 : q * K < p * K := Int.mul_lt_mul_of_pos_right h hp
    have n1 : ¬ p < q := by omega
    have n2 : ¬ p = q := by omega
    have n3 : ¬ p * K < q * K := by omega
    have n4 : ¬ p * K = q * K := by omega
    rw [show compare p q = .gt from by simp [compare, compareOfLessAndEq, n1, n2], show compare (p * K) (q * K) = .gt from by simp [compare, compareOfLessAndEq, n3, n4]]
end Flt

/- Products of floats in the model, in whole numbers of the least unit. No program is named here. -/
namespace Flt
open Ieee

theorem signed_mul (s t : Bool) (m n a b : Nat) : signed s m a * signed t n b = signed (s ^^ t) (m * n) (a + b) := by
  rw [signed_eq, signed_eq, signed_eq, Int.pow_add, Int.natCast_mul]
  have e : (m : Int) * 2 ^ a * ((n : Int) * 2 ^ b) = (m : Int) * (n : Int) * (2 ^ a * 2 ^ b) := by ac_rfl
  cases s <;> cases t
  · exact e
  · show (m : Int) * 2 ^ a * -((n : Int) * 2 ^ b) = -((m : Int) * (n : Int) * (2 ^ a * 2 ^ b))
    rw [Int.mul_neg, e]
  · show -((m : Int) * 2 ^ a) * ((n : Int) * 2 ^ b) = -((m : Int) * (n : Int) * (2 ^ a * 2 ^ b))
    rw [Int.neg_mul, e]
  · show -((m : Int) * 2 ^ a) * -((n : Int) * 2 ^ b) = (m : Int) * (n : Int) * (2 ^ a * 2 ^ b)
    rw [Int.neg_mul_neg, e]

theorem zero_left {x : Nat} (h : x = 0) (y : Nat) : x * y = 0 := by rw [h, Nat.zero_mul]
theorem two_posN (k : Nat) : 0 < 2 ^ k := Nat.pow_pos (by decide)

/-- the product of two numbers whose last places are not too low, to the nearest -/
theorem mul_num {x y : Nat} {a b p : Int} (hx : Num x a) (hy : Num y b) (hp : a * b = p * 2 ^ 1074) (hb : p.natAbs < 2 ^ top)
    (hplace : a = 0 ∨ b = 0 ∨ ∃ e f : Nat, 1074 ≤ e + f ∧ 2 ^ (52 + e) ≤ a.natAbs ∧ 2 ^ (52 + f) ≤ b.natAbs) : ∃ r z, double.mul x y = some r ∧ Num r z ∧ Near p z := by
  obtain ⟨s, m, i, hr, h1, _, h3, rfl⟩ := hx.ex
  obtain ⟨t, n, j, hr', h1', _, h3', rfl⟩ := hy.ex
  have hmul : double.mul x y = some (double.nearest (s ^^ t) (m * n) (i + j)) := by
    unfold Format.mul
    rw [hr, hr']; rfl
  rw [hmul]
  have hprod : sval s m i * sval t n j = signed (s ^^ t) (m * n) ((i + 1074).toNat + (j + 1074).toNat) := signed_mul _ _ _ _ _ _
  by_cases h0 : m * n = 0
  · have hz : sval s m i * sval t n j = 0 := by rw [hprod, h0, signed_eq]; simp
    have hp0 : p = 0 := by
      rw [hz] at hp
      have : (2 : Int) ^ 1074 ≠ 0 := Int.ne_of_gt (two_pos _)
      rcases Int.mul_eq_zero.1 hp.symm with h | h
      · exact h
      · exact absurd h this
    obtain ⟨z, hN, hZ⟩ := nearest_num (s ^^ t) (m * n) (i + j) (Or.inl h0) (Nat.lt_of_le_of_lt (Nat.le_of_eq (zero_left h0 _)) (two_posN top))
    refine ⟨_, z, rfl, hN, ?_⟩
    have : sval (s ^^ t) (m * n) (i + j) = 0 := by
      unfold sval
      rw [h0, signed_eq]; simp
    rw [this] at hZ
    rw [hp0]; exact hZ
  · have habs : ∀ (s : Bool) (m : Nat) (i : Int), (sval s m i).natAbs = m * 2 ^ (i + 1074).toNat := fun s m i => signed_abs _ _ _
    have hpl : -1074 ≤ i + j := by
      rcases hplace with h | h | ⟨e, f, hef, he, hf⟩
      · exfalso
        have := habs s m i
        rw [h] at this
        have hpos : 0 < 2 ^ (i + 1074).toNat := Nat.pow_pos (by decide)
        have hm0 : m ≠ 0 := fun hc => h0 (by rw [hc, Nat.zero_mul])
        have h9 := Nat.mul_pos (Nat.pos_of_ne_zero hm0) hpos
        rw [← this] at h9
        exact absurd h9 (by decide)
      · exfalso
        have := habs t n j
        rw [h] at this
        have hpos : 0 < 2 ^ (j + 1074).toNat := Nat.pow_pos (by decide)
        have hm0 : n ≠ 0 := fun hc => h0 (by rw [hc, Nat.mul_zero])
        have h9 := Nat.mul_pos (Nat.pos_of_ne_zero hm0) hpos
        rw [← this] at h9
        exact absurd h9 (by decide)
      · rw [habs] at he hf
        have he2 : m * 2 ^ (i + 1074).toNat < 2 ^ 53 * 2 ^ (i + 1074).toNat := Nat.mul_lt_mul_of_pos_right h3 (Nat.pow_pos (by decide))
        have hf2 : n * 2 ^ (j + 1074).toNat < 2 ^ 53 * 2 ^ (j + 1074).toNat := Nat.mul_lt_mul_of_pos_right h3' (Nat.pow_pos (by decide))
        rw [← Nat.pow_add] at he2 hf2
        have := two_lt (Nat.lt_of_le_of_lt he he2)
        have := two_lt (Nat.lt_of_le_of_lt hf hf2)
        omega
    have hval : sval (s ^^ t) (m * n) (i + j) = p := by
      have h4 : sval (s ^^ t) (m * n) (i + j) * 2 ^ 1074 = p * 2 ^ 1074 := by
        rw [← hp, hprod]
        unfold sval
        rw [← signed_scale]; congr 1; omega
      exact Int.eq_of_mul_eq_mul_right (Int.ne_of_gt (two_pos _)) h4
    have hb2 : m * n * 2 ^ (i + j + 1074).toNat < 2 ^ top := by
      have := habs (s ^^ t) (m * n) (i + j)
      rw [hval] at this
      rw [← this]; exact hb
    obtain ⟨z, hN, hZ⟩ := nearest_num (s ^^ t) (m * n) (i + j) (Or.inr hpl) hb2
    rw [hval] at hZ
    exact ⟨_, z, rfl, hN, hZ⟩
end Flt

/- Rounding to nearest, ties to even, as a function of the whole number (of least units) that is rounded. No program is named here. -/
namespace Flt
open Ieee

/-- n over 2^d, to the nearest, ties to even -/
def cutN (n d : Nat) : Nat := n / 2 ^ d + (if 2 ^ d < 2 * (n % 2 ^ d) ∨ (2 ^ d = 2 * (n % 2 ^ d) ∧ n / 2 ^ d % 2 = 1) then 1 else 0)
def rnN (n : Nat) : Nat := if n.log2 ≤ 52 then n else cutN n (n.log2 - 52) * 2 ^ (n.log2 - 52)
/-- the float nearest to n -/
def rn (n : Int) : Int := if n < 0 then -(rnN n.natAbs : Int) else (rnN n.natAbs : Int)

theorem cutN_shift (mag d drop : Nat) : cutN (mag * 2 ^ d) (drop + d) = cutN mag drop := by
  have hp : 0 < 2 ^ d := Nat.pow_pos (by decide)
  have e1 : mag * 2 ^ d / 2 ^ (drop + d) = mag / 2 ^ drop := by rw [Nat.pow_add]; exact Nat.mul_div_mul_right _ _ hp
  have e2 : mag * 2 ^ d % 2 ^ (drop + d) = mag % 2 ^ drop * 2 ^ d := by rw [Nat.pow_add]; exact Nat.mul_mod_mul_right _ _ _
  unfold cutN
  rw [e1, e2, Nat.pow_add]
  obtain ⟨R, hR⟩ : ∃ R, R = mag % 2 ^ drop := ⟨_, rfl⟩
  obtain ⟨G, hG⟩ : ∃ G, G = 2 ^ drop := ⟨_, rfl⟩
  obtain ⟨K, hK⟩ : ∃ K, K = 2 ^ d := ⟨_, rfl⟩
  rw [← hK] at hp
  rw [← hR, ← hG, ← hK]
  have c1 : (G * K < 2 * (R * K)) ↔ (G < 2 * R) := by
    rw [← Nat.mul_assoc]
    exact Nat.mul_lt_mul_right hp
  have c2 : (G * K = 2 * (R * K)) ↔ (G = 2 * R) := by
    rw [← Nat.mul_assoc]
    exact ⟨fun h => Nat.eq_of_mul_eq_mul_right hp h, fun h => by rw [h]⟩
  simp only [c1, c2]
theorem cutN_exact (q d : Nat) : cutN (q * 2 ^ d) d = q := by
  have hp : 0 < 2 ^ d := Nat.pow_pos (by decide)
  have e1 : q * 2 ^ d / 2 ^ d = q := Nat.mul_div_cancel _ hp
  have e2 : q * 2 ^ d % 2 ^ d = 0 := Nat.mul_mod_left _ _
  unfold cutN
  rw [e1, e2]
  have : ¬ (2 ^ d < 2 * 0 ∨ 2 ^ d = 2 * 0 ∧ q % 2 = 1) := by
    intro h
    rcases h with h | ⟨h, _⟩ <;> omega
  rw [if_neg this, Nat.add_zero]
theorem rnN_zero : rnN 0 = 0 := by decide
theorem rn_zero : rn 0 = 0 := by decide
theorem rn_neg (n : Int) : rn (-n) = -rn n := by
  unfold rn
  rw [Int.natAbs_neg]
  by_cases h : n < 0
  · rw [if_pos h, if_neg (by omega : ¬ -n < 0)]; omega
  · rw [if_neg h]
    by_cases h0 : n = 0
    · subst h0; decide
    · rw [if_pos (by omega : -n < 0)]
theorem rn_nat (n : Nat) : rn (n : Int) = (rnN n : Int) := by
  unfold rn
  rw [if_neg (by omega)]
  simp
/-- a number times a power of two, of which the number has up to 53 bits -/
theorem rnN_short (mag d : Nat) (h : mag.log2 ≤ 52) : rnN (mag * 2 ^ d) = mag * 2 ^ d := by
  by_cases h0 : mag = 0
  · subst h0; rw [Nat.zero_mul]; exact rnN_zero
  have hl := log2_shift h0 d
  unfold rnN
  rw [hl]
  by_cases c : mag.log2 + d ≤ 52
  · rw [if_pos c]
  · rw [if_neg c]
    have e : mag * 2 ^ d = mag * 2 ^ (52 - mag.log2) * 2 ^ (mag.log2 + d - 52) := by
      rw [Nat.mul_assoc, ← Nat.pow_add]; congr 2; omega
    rw [e, cutN_exact]
theorem rnN_long (mag d : Nat) (h : ¬ mag.log2 ≤ 52) : rnN (mag * 2 ^ d) = cutN mag (mag.log2 - 52) * 2 ^ (d + (mag.log2 - 52)) := by
  have h0 : mag ≠ 0 := by
    intro hc; subst hc
    exact h (by decide)
  have hl := log2_shift h0 d
  unfold rnN
  rw [hl, if_neg (by omega), show mag.log2 + d - 52 = (mag.log2 - 52) + d from by omega, cutN_shift, Nat.add_comm d]
theorem rn_near (n : Int) : Near n (rn n) := by
  have key : ∀ n : Nat, Near (n : Int) (rnN n : Int) := by
    intro n
    by_cases h : n.log2 ≤ 52
    · have e := rnN_short n 0 h
      rw [Nat.pow_zero, Nat.mul_one] at e
      rw [e]
      refine ⟨fl_small ?_, fun y _ => by omega⟩
      by_cases h0 : n = 0
      · subst h0; decide
      · have := @Nat.lt_log2_self n
        have h1 : 2 ^ (n.log2 + 1) ≤ 2 ^ 53 := two_le (by omega)
        show n ≤ 2 ^ 53
        omega
    · have e := rnN_long n 0 h
      rw [Nat.pow_zero, Nat.mul_one] at e
      have h0 : n ≠ 0 := by
        intro hc; subst hc
        exact h (by decide)
      have hlo := Nat.log2_self_le h0
      have hhi := @Nat.lt_log2_self n
      have q1 : 2 ^ 52 ≤ n / 2 ^ (n.log2 - 52) := by
        refine (Nat.le_div_iff_mul_le (Nat.pow_pos (by decide))).2 ?_
        rw [← Nat.pow_add, show 52 + (n.log2 - 52) = n.log2 from by omega]; exact hlo
      have q2 : n / 2 ^ (n.log2 - 52) < 2 ^ 53 := by
        refine (Nat.div_lt_iff_lt_mul (Nat.pow_pos (by decide))).2 ?_
        rw [← Nat.pow_add, show 53 + (n.log2 - 52) = n.log2 + 1 from by omega]; exact hhi
      have hN := near_cut n 0 (n.log2 - 52) _ q1 q2 rfl
      rw [Int.pow_zero, Int.mul_one] at hN
      rw [e, Int.natCast_mul, Int.natCast_pow]
      exact hN
  rcases Int.lt_or_le n 0 with h | h
  · have hk := (key n.natAbs).neg
    have e1 : -((n.natAbs : Nat) : Int) = n := by omega
    rw [e1] at hk
    unfold rn
    rw [if_pos h]
    exact hk
  · have hk := key n.natAbs
    have e1 : ((n.natAbs : Nat) : Int) = n := by omega
    rw [e1] at hk
    unfold rn
    rw [if_neg (by omega)]
    exact hk
theorem rn_fl {n : Int} (h : FL n) : rn n = n := (rn_near n).self h

/-- the word nearest to a number: that number's rounding -/
theorem nearest_rn (s : Bool) (mag : Nat) (place : Int) (hp : mag = 0 ∨ -1074 ≤ place) (hb : mag * 2 ^ (place + 1074).toNat < 2 ^ top) :
    Num (double.nearest s mag place) (rn (sval s mag place)) := by
  by_cases h0 : mag = 0
  · subst h0
    have hr := (read_word s 0 0 (by decide) (Or.inl rfl) (by decide)).1
    have ez : (if s then -(((0 : Nat) : Int) * 2 ^ 0) else ((0 : Nat) : Int) * 2 ^ 0) = 0 := by cases s <;> rfl
    rw [ez] at hr
    have e1 : double.nearest s 0 place = double.word s (0 * 4503599627370496 + 0) := by unfold Format.nearest; rw [if_pos rfl]
    have e2 : sval s 0 place = 0 := by
      unfold sval
      rw [signed_eq]; cases s <;> simp
    rw [e1, e2, rn_zero]
    exact hr
  · have hp : -1074 ≤ place := by rcases hp with h | h
                                  · exact absurd h h0
                                  · exact h
    obtain ⟨d, hd⟩ : ∃ d : Nat, place = (d : Int) - 1074 := ⟨(place + 1074).toNat, by omega⟩
    subst hd
    rw [show ((d : Int) - 1074 + 1074).toNat = d from by omega] at hb
    have hlo := Nat.log2_self_le h0
    have hkd : d + mag.log2 < 2097 := by
      have h1 : 2 ^ (mag.log2 + d) ≤ mag * 2 ^ d := by rw [Nat.pow_add]; exact Nat.mul_le_mul_right _ hlo
      have := two_lt (Nat.lt_of_le_of_lt h1 hb)
      have ht : top = 2097 := rfl
      omega
    have hhi := @Nat.lt_log2_self mag
    have key : ∃ k c : Nat, double.nearest s mag ((d : Int) - 1074) = double.word s (min (k * 4503599627370496 + c) 9218868437227405312) ∧ c ≤ 2 ^ 53 ∧ (k = 0 ∨ 2 ^ 52 ≤ c) ∧ k ≤ 2044 ∧ rnN (mag * 2 ^ d) = c * 2 ^ k := by
      unfold Format.nearest
      rw [if_neg h0, least, binade_eq, inf_eq, fraction_eq]
      by_cases c1 : d + mag.log2 ≤ 52
      · have e1 : max ((d : Int) - 1074 + (mag.log2 : Int) - ((52 : Nat) : Int)) (-1074) = -1074 := by omega
        refine ⟨0, mag * 2 ^ d, ?_, ?_, Or.inl rfl, by omega, ?_⟩
        · simp only [e1]
          rw [show (-1074 - ((d : Int) - 1074)).toNat = 0 from by omega, cut_zero, show ((d : Int) - 1074 - -1074).toNat = d from by omega, Nat.shiftLeft_eq]
          rfl
        · have h1 : mag * 2 ^ d < 2 ^ (mag.log2 + 1) * 2 ^ d := Nat.mul_lt_mul_of_pos_right hhi (Nat.pow_pos (by decide))
          rw [← Nat.pow_add] at h1
          exact Nat.le_of_lt (Nat.lt_of_lt_of_le h1 (two_le (by omega)))
        · rw [rnN_short mag d (by omega), Nat.pow_zero, Nat.mul_one]
      · have e1 : max ((d : Int) - 1074 + (mag.log2 : Int) - ((52 : Nat) : Int)) (-1074) = ((d + mag.log2 - 52 : Nat) : Int) - 1074 := by omega
        by_cases c2 : mag.log2 ≤ 52
        · refine ⟨d + mag.log2 - 52, mag * 2 ^ (52 - mag.log2), ?_, ?_, Or.inr ?_, by omega, ?_⟩
          · simp only [e1]
            rw [show (((d + mag.log2 - 52 : Nat) : Int) - 1074 - ((d : Int) - 1074)).toNat = 0 from by omega, cut_zero, show ((d : Int) - 1074 - (((d + mag.log2 - 52 : Nat) : Int) - 1074)).toNat = 52 - mag.log2 from by omega, Nat.shiftLeft_eq,
              show (((d + mag.log2 - 52 : Nat) : Int) - 1074 - -1074).toNat = d + mag.log2 - 52 from by omega]
          · have h1 : mag * 2 ^ (52 - mag.log2) < 2 ^ (mag.log2 + 1) * 2 ^ (52 - mag.log2) := Nat.mul_lt_mul_of_pos_right hhi (Nat.pow_pos (by decide))
            rw [← Nat.pow_add] at h1
            exact Nat.le_of_lt (Nat.lt_of_lt_of_le h1 (two_le (by omega)))
          · have h1 : 2 ^ mag.log2 * 2 ^ (52 - mag.log2) ≤ mag * 2 ^ (52 - mag.log2) := Nat.mul_le_mul_right _ hlo
            rw [← Nat.pow_add] at h1
            exact Nat.le_trans (two_le (by omega)) h1
          · rw [rnN_short mag d c2, Nat.mul_assoc, ← Nat.pow_add]; congr 2; omega
        · have hdrop : mag.log2 - 52 ≤ mag.log2 + 2 := by omega
          have q1 : 2 ^ 52 ≤ mag / 2 ^ (mag.log2 - 52) := by
            refine (Nat.le_div_iff_mul_le (Nat.pow_pos (by decide))).2 ?_
            rw [← Nat.pow_add, show 52 + (mag.log2 - 52) = mag.log2 from by omega]; exact hlo
          have q2 : mag / 2 ^ (mag.log2 - 52) < 2 ^ 53 := by
            refine (Nat.div_lt_iff_lt_mul (Nat.pow_pos (by decide))).2 ?_
            rw [← Nat.pow_add, show 53 + (mag.log2 - 52) = mag.log2 + 1 from by omega]; exact hhi
          refine ⟨d + (mag.log2 - 52), cutN mag (mag.log2 - 52), ?_, ?_, Or.inr ?_, by omega, rnN_long mag d c2⟩
          · simp only [e1]
            rw [show (((d + mag.log2 - 52 : Nat) : Int) - 1074 - ((d : Int) - 1074)).toNat = mag.log2 - 52 from by omega, show ((d : Int) - 1074 - (((d + mag.log2 - 52 : Nat) : Int) - 1074)).toNat = 0 from by omega, Nat.shiftLeft_zero, cut_some s mag _ hdrop,
              show (((d + mag.log2 - 52 : Nat) : Int) - 1074 - -1074).toNat = d + (mag.log2 - 52) from by omega]
            rfl
          · unfold cutN; split <;> omega
          · unfold cutN; split <;> omega
    obtain ⟨k, c, e, hc, hl, hk, hN⟩ := key
    obtain ⟨hR, hlt⟩ := read_word s k c hc hl hk
    rw [e, Nat.min_eq_left (Nat.le_of_lt hlt)]
    have hv : rn (sval s mag ((d : Int) - 1074)) = (if s then -((c : Int) * 2 ^ k) else (c : Int) * 2 ^ k) := by
      have e3 : ((rnN (mag * 2 ^ d) : Nat) : Int) = (c : Int) * 2 ^ k := by rw [hN, Int.natCast_mul, Int.natCast_pow]; rfl
      have e4 : (mag : Int) * 2 ^ d = ((mag * 2 ^ d : Nat) : Int) := by rw [Int.natCast_mul, Int.natCast_pow]; rfl
      unfold sval
      rw [signed_eq, show ((d : Int) - 1074 + 1074).toNat = d from by omega]
      cases s
      · show rn ((mag : Int) * 2 ^ d) = _
        rw [e4, rn_nat]; exact e3
      · show rn (-((mag : Int) * 2 ^ d)) = _
        rw [rn_neg, e4, rn_nat, e3]; rfl
    rw [hv]; exact hR

theorem sum_rn {s t : Bool} {m n : Nat} {i j : Int} (hi : -1074 ≤ i) (hj : -1074 ≤ j) (hb : (sval s m i + sval t n j).natAbs < 2 ^ top) :
    ∃ r, ((Datum.number s m i).sum (.number t n j)).map double.write = some r ∧ Num r (rn (sval s m i + sval t n j)) := by
  obtain ⟨base, hbase⟩ : ∃ base, base = min i j := ⟨_, rfl⟩
  have hb0 : -1074 ≤ base := by omega
  have ei : sval s m i = signed s m (i - base).toNat * 2 ^ (base + 1074).toNat := by
    unfold sval
    rw [← signed_scale]; congr 1; omega
  have ej : sval t n j = signed t n (j - base).toNat * 2 ^ (base + 1074).toNat := by
    unfold sval
    rw [← signed_scale]; congr 1; omega
  obtain ⟨T, hT⟩ : ∃ T, T = signed s m (i - base).toNat + signed t n (j - base).toNat := ⟨_, rfl⟩
  have eT : sval s m i + sval t n j = T * 2 ^ (base + 1074).toNat := by rw [ei, ej, hT, Int.add_mul]
  rw [eT] at hb ⊢
  have hw : ((Datum.number s m i).sum (.number t n j)).map double.write = some (double.nearest (if T = 0 then s && t else decide (T < 0)) T.natAbs base) := by
    rw [hT, hbase]; rfl
  rw [Int.natAbs_mul, natAbs_two] at hb
  have h1 := nearest_rn (if T = 0 then s && t else decide (T < 0)) T.natAbs base (Or.inr hb0) hb
  refine ⟨_, hw, ?_⟩
  have : sval (if T = 0 then s && t else decide (T < 0)) T.natAbs base = T * 2 ^ (base + 1074).toNat := by
    unfold sval
    by_cases h0 : T = 0
    · subst h0
      rw [signed_eq]; cases s <;> cases t <;> simp
    · rw [if_neg h0]; exact signed_total _ _
  rw [this] at h1
  exact h1
theorem add_rn {x y : Nat} {a b : Int} (hx : Num x a) (hy : Num y b) (hb : (a + b).natAbs < 2 ^ top) : ∃ r, double.add x y = some r ∧ Num r (rn (a + b)) := by
  obtain ⟨s, m, i, hr, h1, _, _, rfl⟩ := hx.ex
  obtain ⟨t, n, j, hr', h1', _, _, rfl⟩ := hy.ex
  unfold Format.add
  rw [hr, hr']
  exact sum_rn h1 h1' hb
theorem sub_rn {x y : Nat} {a b : Int} (hx : Num x a) (hy : Num y b) (hb : (a - b).natAbs < 2 ^ top) : ∃ r, double.sub x y = some r ∧ Num r (rn (a - b)) := by
  obtain ⟨s, m, i, hr, h1, _, _, rfl⟩ := hx.ex
  obtain ⟨t, n, j, hr', h1', _, _, rfl⟩ := hy.ex
  unfold Format.sub
  rw [hr, hr']
  have e : sval s m i - sval t n j = sval s m i + sval (!t) n j := by rw [sval_not]; omega
  rw [e] at hb ⊢
  exact sum_rn h1 h1' hb
/-- the error: at most 2^-53 times what is rounded -/
theorem Near.rel {n z : Int} (h : Near n z) : (z - n).natAbs * 9007199254740992 ≤ n.natAbs := by
  by_cases hs : n.natAbs ≤ 2 ^ 53
  · have := h.self (fl_small hs)
    subst this
    simp
  · have h0 : n.natAbs ≠ 0 := by omega
    have hlo := Nat.log2_self_le h0
    have hhi := @Nat.lt_log2_self n.natAbs
    have h53 : 53 ≤ n.natAbs.log2 := (Nat.le_log2 h0).2 (by omega)
    obtain ⟨e, he⟩ : ∃ e, n.natAbs.log2 = 53 + e := ⟨n.natAbs.log2 - 53, by omega⟩
    rw [he] at hlo hhi
    have h1 := h.err (e := e) (Nat.le_of_lt (by rw [show 54 + e = 53 + e + 1 from by omega]; exact hhi))
    rw [Nat.pow_add] at hlo
    have e53 : (2 : Nat) ^ 53 = 9007199254740992 := rfl
    rw [e53] at hlo
    omega
end Flt

/- Sums without an error by two ways, splitting a float, products without an error: over whole numbers. No program is named here. -/
namespace Flt

/-- the sum of two of which the first is the greater -/
theorem fast_two_sum {a b s z e : Int} (ha : FL a) (hb : FL b) (hab : b.natAbs ≤ a.natAbs) (h1 : Near (a + b) s) (h2 : Near (s - a) z) (h3 : Near (b - z) e) : s + e = a + b := by
  have e1 := h2.self (fast_fl ha hb hab h1)
  subst e1
  have e2 : b - (s - a) = a + b - s := by omega
  rw [e2] at h3
  have e3 := h3.self (err_fl ha hb h1)
  omega

/-- the sum of any two, by six operations -/
theorem two_sum {a b s a' b' da db t : Int} (ha : FL a) (hb : FL b) (h1 : Near (a + b) s) (h2 : Near (s - b) a') (h3 : Near (s - a') b') (h4 : Near (a - a') da) (h5 : Near (b - b') db) (h6 : Near (da + db) t) : s + t = a + b := by
  have herr := err_fl ha hb h1
  by_cases hab : a.natAbs ≤ b.natAbs
  · have e1 := h2.self (fast_fl hb ha hab (by rwa [Int.add_comm]))
    subst e1
    have e2 := h3.self (by have : s - (s - b) = b := by omega
                           rw [this]; exact hb)
    have e3 := h4.self (by have : a - (s - b) = a + b - s := by omega
                           rw [this]; exact herr)
    have e4 := h5.self (by have : b - b' = 0 := by omega
                           rw [this]; exact fl_zero)
    have e5 := h6.self (by have : da + db = a + b - s := by omega
                           rw [this]; exact herr)
    omega
  · by_cases hsb : s.natAbs < b.natAbs
    · have es : s = a + b := by
        refine Classical.byContradiction fun hne => ?_
        obtain ⟨f, hdf, hf, hcf⟩ := canon hb
        have hda : (2 : Int) ^ f ∣ a := by
          rcases hcf with h | h
          · rw [h]; simp
          · exact dvd_of_ge ha (by omega)
        have := (h1.great (Int.dvd_add hda hdf) hne).2
        omega
      have e1 := h2.self (by have : s - b = a := by omega
                             rw [this]; exact ha)
      have e2 := h3.self (by have : s - a' = b := by omega
                             rw [this]; exact hb)
      have e3 := h4.self (by have : a - a' = 0 := by omega
                             rw [this]; exact fl_zero)
      have e4 := h5.self (by have : b - b' = 0 := by omega
                             rw [this]; exact fl_zero)
      have e5 := h6.self (by have : da + db = 0 := by omega
                             rw [this]; exact fl_zero)
      omega
    · have h2' : Near (s + -b) a' := h2
      have f1 := fast_fl h1.fl (fl_neg hb) (by omega) h2'
      have f2 := err_fl h1.fl (fl_neg hb) h2'
      have e2 := h3.self (by have : s - a' = -(a' - s) := by omega
                             rw [this]; exact fl_neg f1)
      have e4 := h5.self (by have : b - b' = -(s + -b - a') := by omega
                             rw [this]; exact fl_neg f2)
      have f3 : FL (a - a') := by
        obtain ⟨e, hde, he, hce⟩ := canon ha
        have herr1 := h1.err (e := e) (by
          have : (2 : Nat) ^ (54 + e) = 2 * 2 ^ (53 + e) := by rw [show 54 + e = 53 + e + 1 from by omega, Nat.pow_succ, Nat.mul_comm]
          omega)
        have hna := h2.le a ha
        have hd : (a - a').natAbs ≤ 2 * 2 ^ e := by omega
        rcases hce with h0 | h0
        · subst h0
          refine fl_small ?_
          have h5 : (2 : Nat) ^ 53 = 9007199254740992 := rfl
          have h6 : (2 : Nat) ^ 0 = 1 := rfl
          omega
        · by_cases e0 : e = 0
          · subst e0
            refine fl_small ?_
            have h5 : (2 : Nat) ^ 53 = 9007199254740992 := rfl
            have h6 : (2 : Nat) ^ 0 = 1 := rfl
            omega
          · obtain ⟨g, rfl⟩ : ∃ g, e = g + 1 := ⟨e - 1, by omega⟩
            have p1 : (2 : Nat) ^ (g + 1) = 2 * 2 ^ g := by rw [Nat.pow_succ, Nat.mul_comm]
            have p2 : (2 : Nat) ^ (52 + (g + 1)) = 9007199254740992 * 2 ^ g := by rw [show 52 + (g + 1) = 53 + g from by omega, Nat.pow_add]
            have p3 : (2 : Nat) ^ (52 + g) = 4503599627370496 * 2 ^ g := by rw [Nat.pow_add]
            have p4 : (2 : Nat) ^ (53 + g) = 9007199254740992 * 2 ^ g := by rw [Nat.pow_add]
            have hpos : 0 < 2 ^ g := Nat.pow_pos (by decide)
            have hda' : (2 : Int) ^ g ∣ a' := dvd_of_ge h2.fl (by omega)
            exact fl_of (Int.dvd_sub (two_dvd_of_le (by omega) hde) hda') (by omega)
      have e3 := h4.self f3
      have e5 := h6.self (by have : da + db = a + b - s := by omega
                             rw [this]; exact herr)
      omega

/-! splitting: by the product with 2^27 + 1 -/
/-- a float of last place e in two halves -/
structure Halves (a : Int) (e : Nat) (hi lo : Int) : Prop where
  sum : a = hi + lo
  lo_dvd : (2 : Int) ^ e ∣ lo
  lo_le : lo.natAbs ≤ 2 ^ (26 + e)
  hi_or : ((2 : Int) ^ (27 + e) ∣ hi ∧ hi.natAbs ≤ 2 ^ (53 + e)) ∨ ((2 : Int) ^ (26 + e) ∣ hi ∧ hi.natAbs ≤ 2 ^ (52 + e) + 2 ^ (26 + e) ∧ a.natAbs = 2 ^ (52 + e))
theorem Halves.neg {a hi lo : Int} {e : Nat} (h : Halves a e hi lo) : Halves (-a) e (-hi) (-lo) := by
  refine ⟨by have := h.sum; omega, Int.dvd_neg.2 h.lo_dvd, by rw [Int.natAbs_neg]; exact h.lo_le, ?_⟩
  rw [Int.natAbs_neg, Int.natAbs_neg]
  rcases h.hi_or with ⟨h1, h2⟩ | ⟨h1, h2, h3⟩
  · exact Or.inl ⟨Int.dvd_neg.2 h1, h2⟩
  · exact Or.inr ⟨Int.dvd_neg.2 h1, h2, h3⟩

theorem split_halves {a c d hi lo : Int} {e : Nat} (hd : (2 : Int) ^ e ∣ a) (hge : 2 ^ (52 + e) ≤ a.natAbs) (hlt : a.natAbs < 2 ^ (53 + e))
    (h1 : Near (134217729 * a) c) (h2 : Near (c - a) d) (h3 : Near (c - d) hi) (h4 : Near (a - hi) lo) : Halves a e hi lo := by
  have key : ∀ a c d hi lo : Int, 0 ≤ a → (2 : Int) ^ e ∣ a → 2 ^ (52 + e) ≤ a.natAbs → a.natAbs < 2 ^ (53 + e) →
      Near (134217729 * a) c → Near (c - a) d → Near (c - d) hi → Near (a - hi) lo → Halves a e hi lo := by
    intro a c d hi lo a0 hd hge hlt h1 h2 h3 h4
    have q (j : Nat) : (2 : Nat) ^ (j + e) = 2 ^ j * 2 ^ e := Nat.pow_add 2 j e
    have hU : 0 < 2 ^ e := Nat.pow_pos (by decide)
    obtain ⟨U, hUe⟩ : ∃ U, U = 2 ^ e := ⟨_, rfl⟩
    have p26 : (2 : Nat) ^ (26 + e) = 67108864 * U := by rw [q 26, hUe]
    have p27 : (2 : Nat) ^ (27 + e) = 134217728 * U := by rw [q 27, hUe]
    have p52 : (2 : Nat) ^ (52 + e) = 4503599627370496 * U := by rw [q 52, hUe]
    have p53 : (2 : Nat) ^ (53 + e) = 9007199254740992 * U := by rw [q 53, hUe]
    have p78 : (2 : Nat) ^ (52 + (26 + e)) = 302231454903657293676544 * U := by rw [show 52 + (26 + e) = 78 + e from by omega, q 78, hUe]
    have p79 : (2 : Nat) ^ (52 + (27 + e)) = 604462909807314587353088 * U := by rw [show 52 + (27 + e) = 79 + e from by omega, q 79, hUe]
    have p80 : (2 : Nat) ^ (54 + (26 + e)) = 1208925819614629174706176 * U := by rw [show 54 + (26 + e) = 80 + e from by omega, q 80, hUe]
    have p81 : (2 : Nat) ^ (54 + (27 + e)) = 2417851639229258349412352 * U := by rw [show 54 + (27 + e) = 81 + e from by omega, q 81, hUe]
    rw [← hUe] at hU
    rw [p52] at hge
    rw [p53] at hlt
    -- a is a multiple of U
    have ha1 : a.natAbs + U ≤ 9007199254740992 * U ∧ ∃ k : Nat, a = (k : Int) * (U : Int) := by
      obtain ⟨k, hk⟩ := hd
      have eU : ((2 : Int) ^ e) = (U : Int) := by rw [hUe, Int.natCast_pow]; rfl
      rw [eU] at hk
      have hk0 : 0 ≤ k := by
        refine Classical.byContradiction fun hc => ?_
        have : (U : Int) * k ≤ (U : Int) * (-1) := Int.mul_le_mul_of_nonneg_left (by omega) (by omega)
        omega
      obtain ⟨m, rfl⟩ := Int.eq_ofNat_of_zero_le hk0
      have hka : a.natAbs = m * U := by rw [hk, Int.natAbs_mul, Nat.mul_comm]; rfl
      have hm : m < 9007199254740992 := by
        refine Classical.byContradiction fun hc => ?_
        have : 9007199254740992 * U ≤ m * U := Nat.mul_le_mul_right _ (by omega)
        omega
      have : (m + 1) * U ≤ 9007199254740992 * U := Nat.mul_le_mul_right _ hm
      rw [Nat.add_mul, Nat.one_mul, ← hka] at this
      exact ⟨this, m, by rw [hk, Int.mul_comm]⟩
    obtain ⟨ha1, k, hak⟩ := ha1
    have E1 := h1.err (e := 27 + e) (by rw [p81]; omega)
    rw [p27] at E1
    have E2 := h2.err (e := 26 + e) (by rw [p80]; omega)
    rw [p26] at E2
    have dc : (2 : Int) ^ (27 + e) ∣ c := dvd_of_ge h1.fl (by rw [p79]; omega)
    have fin : ∀ h : Int, hi = h → (a - h).natAbs ≤ 67108864 * U → (2 : Int) ^ (26 + e) ∣ h → lo = a - h ∧ (2 : Int) ^ e ∣ a - h := by
      intro h eh hle hdh
      subst eh
      have hda : (2 : Int) ^ e ∣ a - hi := Int.dvd_sub hd (two_dvd_of_le (by omega) hdh)
      exact ⟨h4.self (fl_of hda (by rw [p53]; omega)), hda⟩
    by_cases hd79 : 604462909807314587353088 * U ≤ d.natAbs
    · have dd : (2 : Int) ^ (27 + e) ∣ d := dvd_of_ge h2.fl (by rw [p79]; exact hd79)
      have dcd := Int.dvd_sub dc dd
      have e3 := h3.self (fl_of dcd (by rw [show 53 + (27 + e) = 54 + (26 + e) from by omega, p80]; omega))
      obtain ⟨e4, e5⟩ := fin _ e3 (by omega) (two_dvd_of_le (by omega) dcd)
      refine ⟨by omega, e4 ▸ e5, by rw [p26]; omega, Or.inl ⟨e3 ▸ dcd, ?_⟩⟩
      -- a multiple of 2^27 U
      obtain ⟨j, hj⟩ := dcd
      have eV : ((2 : Int) ^ (27 + e)) = 134217728 * (U : Int) := by
        have : ((2 : Int) ^ (27 + e)) = (((2 : Nat) ^ (27 + e) : Nat) : Int) := by rw [Int.natCast_pow]; rfl
        rw [this, p27]; rfl
      rw [eV] at hj
      rw [p53, e3, hj]
      have hja : (134217728 * (U : Int) * j).natAbs = 134217728 * U * j.natAbs := by rw [Int.natAbs_mul, Int.natAbs_mul]; rfl
      rw [hja]
      refine Classical.byContradiction fun hc => ?_
      have hjj : 67108864 < j.natAbs := by
        refine Classical.byContradiction fun hx => hc ?_
        have : 134217728 * U * j.natAbs ≤ 134217728 * U * 67108864 := Nat.mul_le_mul_left _ (by omega)
        omega
      have h7 : 134217728 * U * 67108865 ≤ 134217728 * U * j.natAbs := Nat.mul_le_mul_left _ hjj
      omega
    · -- a is a power of two
      have hf79 : FL ((2 : Int) ^ (52 + (27 + e))) := fl_of (e := 27 + e) ⟨2 ^ 52, by rw [Int.pow_add, Int.mul_comm]⟩ (by rw [natAbs_two]; exact two_le (by omega))
      have e79 : ((2 : Int) ^ (52 + (27 + e))) = 604462909807314587353088 * (U : Int) := by
        have : ((2 : Int) ^ (52 + (27 + e))) = (((2 : Nat) ^ (52 + (27 + e)) : Nat) : Int) := by rw [Int.natCast_pow]; rfl
        rw [this, p79]; rfl
      have hn2 : c - a < 604462909807314587353088 * (U : Int) := by
        refine Classical.byContradiction fun hc => hd79 ?_
        have := h2.ge hf79 (by rw [e79]; omega)
        rw [e79] at this
        omega
      have hak2 : a = 4503599627370496 * (U : Int) := by
        have h8 : k = 4503599627370496 := by
          have h9 : a.natAbs = k * U := by rw [hak, Int.natAbs_mul]; rfl
          have h10 : 4503599627370496 ≤ k := by
            refine Classical.byContradiction fun hc => ?_
            have : k * U ≤ 4503599627370495 * U := Nat.mul_le_mul_right _ (by omega)
            omega
          have h11 : k < 4503599627370497 := by
            refine Classical.byContradiction fun hc => ?_
            have : 4503599627370497 * U ≤ k * U := Nat.mul_le_mul_right _ (by omega)
            omega
          omega
        rw [hak, h8]; rfl
      have dd : (2 : Int) ^ (26 + e) ∣ d := dvd_of_ge h2.fl (by rw [p78]; omega)
      have dcd := Int.dvd_sub (two_dvd_of_le (by omega) dc : (2 : Int) ^ (26 + e) ∣ c) dd
      have e3 := h3.self (fl_of dcd (by rw [show 53 + (26 + e) = 52 + (27 + e) from by omega, p79]; omega))
      obtain ⟨e4, e5⟩ := fin _ e3 (by omega) dcd
      exact ⟨by omega, e4 ▸ e5, by rw [p26]; omega, Or.inr ⟨e3 ▸ dcd, by rw [p52, p26]; omega, by rw [p52]; omega⟩⟩
  rcases Int.lt_or_le a 0 with ha | ha
  · have n1 := h1.neg
    have n2 := h2.neg
    have n3 := h3.neg
    have n4 := h4.neg
    have := key (-a) (-c) (-d) (-hi) (-lo) (by omega) (Int.dvd_neg.2 hd) (by omega) (by omega)
      (by have e : 134217729 * -a = -(134217729 * a) := by omega
          rw [e]; exact n1)
      (by have e : -c - -a = -(c - a) := by omega
          rw [e]; exact n2)
      (by have e : -c - -d = -(c - d) := by omega
          rw [e]; exact n3)
      (by have e : -a - -hi = -(a - hi) := by omega
          rw [e]; exact n4)
    have h5 := this.neg
    rwa [Int.neg_neg, Int.neg_neg, Int.neg_neg] at h5
  · exact key a c d hi lo ha hd hge hlt h1 h2 h3 h4
end Flt

/- Products without an error: over whole numbers. No program is named here. -/
namespace Flt

/-- two halves of a number of 53 bits -/
structure HalvesU (A H L : Int) : Prop where
  ge : 2 ^ 52 ≤ A.natAbs
  lt : A.natAbs < 2 ^ 53
  sum : A = H + L
  lo_le : L.natAbs ≤ 2 ^ 26
  hi_or : ((2 : Int) ^ 27 ∣ H ∧ H.natAbs ≤ 2 ^ 53) ∨ ((2 : Int) ^ 26 ∣ H ∧ H.natAbs ≤ 2 ^ 52 + 2 ^ 26 ∧ A.natAbs = 2 ^ 52)
theorem HalvesU.dvd {A H L : Int} (h : HalvesU A H L) : (2 : Int) ^ 26 ∣ H := by
  rcases h.hi_or with ⟨h1, _⟩ | ⟨h1, _⟩
  · exact two_dvd_of_le (by decide) h1
  · exact h1
theorem HalvesU.le {A H L : Int} (h : HalvesU A H L) : H.natAbs ≤ 2 ^ 53 := by
  rcases h.hi_or with ⟨_, h1⟩ | ⟨_, h1, _⟩
  · exact h1
  · exact Nat.le_trans h1 (by decide)

theorem shift_abs (x : Int) (k : Nat) : (x * 2 ^ k).natAbs = x.natAbs * 2 ^ k := by rw [Int.natAbs_mul, natAbs_two]
theorem shift_dvd {x : Int} {j k : Nat} (h : (2 : Int) ^ j ∣ x) : (2 : Int) ^ (j + k) ∣ x * 2 ^ k := by
  rw [Int.pow_add]; exact Int.mul_dvd_mul h (Int.dvd_refl _)
theorem fl_shift {x : Int} {j k : Nat} (h : (2 : Int) ^ j ∣ x) (hx : x.natAbs ≤ 2 ^ (53 + j)) : FL (x * 2 ^ k) := by
  refine fl_of (shift_dvd h) ?_
  rw [shift_abs, show 53 + (j + k) = 53 + j + k from by omega, Nat.pow_add 2 (53 + j) k]
  exact Nat.mul_le_mul_right _ hx
theorem mul_abs_le {a b : Int} {x y : Nat} (ha : a.natAbs ≤ x) (hb : b.natAbs ≤ y) : (a * b).natAbs ≤ x * y := by
  rw [Int.natAbs_mul]; exact Nat.mul_le_mul ha hb

structure Dekker (A H L B G M : Int) (k : Nat) (p : Int) : Prop where
  hg : FL (H * G * 2 ^ k)
  hm : FL (H * M * 2 ^ k)
  lg : FL (L * G * 2 ^ k)
  lm : FL (L * M * 2 ^ k)
  t1 : FL (H * G * 2 ^ k - p)
  t2 : FL (H * G * 2 ^ k - p + H * M * 2 ^ k)
  t2' : FL (H * G * 2 ^ k - p + L * G * 2 ^ k)
  t3 : FL (H * G * 2 ^ k - p + H * M * 2 ^ k + L * G * 2 ^ k)
  err : FL (A * B * 2 ^ k - p)
  sum : A * B * 2 ^ k = H * G * 2 ^ k + H * M * 2 ^ k + L * G * 2 ^ k + L * M * 2 ^ k

theorem dekker {A H L B G M : Int} {k : Nat} {p : Int} (hx : HalvesU A H L) (hy : HalvesU B G M) (hp : Near (A * B * 2 ^ k) p) : Dekker A H L B G M k p := by
  have xd := hx.dvd
  have yd := hy.dvd
  have xl := hx.le
  have yl := hy.le
  have hsum : A * B * 2 ^ k = H * G * 2 ^ k + H * M * 2 ^ k + L * G * 2 ^ k + L * M * 2 ^ k := by
    rw [hx.sum, hy.sum]
    simp only [Int.add_mul, Int.mul_add]
    omega
  -- the sizes
  have U0 : 0 < 2 ^ k := Nat.pow_pos (by decide)
  obtain ⟨U, hU⟩ : ∃ U, U = 2 ^ k := ⟨_, rfl⟩
  have q (j : Nat) : (2 : Nat) ^ (j + k) = 2 ^ j * U := by rw [Nat.pow_add, hU]
  have b2 : (H * M * 2 ^ k).natAbs ≤ 604462909807314587353088 * U := by rw [shift_abs, hU]; exact Nat.mul_le_mul_right _ (mul_abs_le xl hy.lo_le)
  have b3 : (L * G * 2 ^ k).natAbs ≤ 604462909807314587353088 * U := by rw [shift_abs, hU]; exact Nat.mul_le_mul_right _ (mul_abs_le hx.lo_le yl)
  have b4 : (L * M * 2 ^ k).natAbs ≤ 4503599627370496 * U := by rw [shift_abs, hU]; exact Nat.mul_le_mul_right _ (mul_abs_le hx.lo_le hy.lo_le)
  have bP : (A * B * 2 ^ k).natAbs ≤ 81129638414606681695789005144064 * U := by rw [shift_abs, hU]; exact Nat.mul_le_mul_right _ (mul_abs_le (Nat.le_of_lt hx.lt) (Nat.le_of_lt hy.lt))
  have bP2 : 20282409603651670423947251286016 * U ≤ (A * B * 2 ^ k).natAbs := by
    rw [shift_abs, hU, Int.natAbs_mul]; exact Nat.mul_le_mul_right _ (Nat.mul_le_mul hx.ge hy.ge)
  have E := hp.err (e := 52 + k) (by rw [show 54 + (52 + k) = 106 + k from by omega, q 106]; exact bP)
  rw [q 52] at E
  have dp : (2 : Int) ^ (52 + k) ∣ p := by
    refine dvd_of_ge hp.fl ?_
    have : (2 : Nat) ^ (52 + (52 + k)) = 20282409603651670423947251286016 * U := by rw [show 52 + (52 + k) = 104 + k from by omega, q 104]
    rw [this]
    have f104 : FL ((2 : Int) ^ (104 + k)) := fl_of (e := 52 + k) ⟨2 ^ 52, by rw [← Int.pow_add]; congr 1; omega⟩ (by rw [natAbs_two]; exact two_le (by omega))
    have c104 : ((2 : Int) ^ (104 + k)) = 20282409603651670423947251286016 * (U : Int) := by
      have : ((2 : Int) ^ (104 + k)) = (((2 : Nat) ^ (104 + k) : Nat) : Int) := by rw [Int.natCast_pow]; rfl
      rw [this, q 104]; rfl
    rcases Int.lt_or_le (A * B * 2 ^ k) 0 with h | h
    · have := hp.neg.ge f104 (by rw [c104]; omega)
      rw [c104] at this; omega
    · have := hp.ge f104 (by rw [c104]; omega)
      rw [c104] at this; omega
  have d1 : (2 : Int) ^ (52 + k) ∣ H * G * 2 ^ k := shift_dvd (by rw [show (52 : Nat) = 26 + 26 from rfl, Int.pow_add]; exact Int.mul_dvd_mul xd yd)
  have d2 : (2 : Int) ^ (26 + k) ∣ H * M * 2 ^ k := shift_dvd (Int.dvd_trans xd (Int.dvd_mul_right _ _))
  have d3 : (2 : Int) ^ (26 + k) ∣ L * G * 2 ^ k := shift_dvd (Int.dvd_trans yd (Int.dvd_mul_left _ _))
  have d4 : (2 : Int) ^ k ∣ L * M * 2 ^ k := Int.dvd_mul_left _ _
  have dP : (2 : Int) ^ k ∣ A * B * 2 ^ k := Int.dvd_mul_left _ _
  have dt1 := Int.dvd_sub d1 dp
  have fhg : FL (H * G * 2 ^ k) := by
    rcases hx.hi_or with ⟨x1, x2⟩ | ⟨x1, x2, _⟩ <;> rcases hy.hi_or with ⟨y1, y2⟩ | ⟨y1, y2, _⟩
    · exact fl_shift (j := 54) (by rw [show (54 : Nat) = 27 + 27 from rfl, Int.pow_add]; exact Int.mul_dvd_mul x1 y1) (Nat.le_trans (mul_abs_le x2 y2) (by decide))
    · exact fl_shift (j := 53) (by rw [show (53 : Nat) = 27 + 26 from rfl, Int.pow_add]; exact Int.mul_dvd_mul x1 y1) (Nat.le_trans (mul_abs_le x2 y2) (by decide))
    · exact fl_shift (j := 53) (by rw [show (53 : Nat) = 26 + 27 from rfl, Int.pow_add]; exact Int.mul_dvd_mul x1 y1) (Nat.le_trans (mul_abs_le x2 y2) (by decide))
    · exact fl_shift (j := 52) (by rw [show (52 : Nat) = 26 + 26 from rfl, Int.pow_add]; exact Int.mul_dvd_mul x1 y1) (Nat.le_trans (mul_abs_le x2 y2) (by decide))
  -- where a factor is a power of two, the product is exact
  have exact2 : ∀ A B : Int, A.natAbs = 2 ^ 52 → B.natAbs < 2 ^ 53 → FL (A * B * 2 ^ k) := by
    intro A B hA hB
    have hA2 : (2 : Int) ^ 52 ∣ A := by
      rcases Int.natAbs_eq A with h | h
      · rw [h, hA]; exact ⟨1, by simp⟩
      · rw [h, hA]; exact ⟨-1, by simp⟩
    exact fl_shift (j := 52) (Int.dvd_trans hA2 (Int.dvd_mul_right _ _)) (Nat.le_trans (mul_abs_le (Nat.le_of_eq hA) (Nat.le_of_lt hB)) (by decide))
  refine ⟨fhg, ?_, ?_, ?_, ?_, ?_, ?_, ?_, ?_, hsum⟩
  · exact fl_of d2 (by rw [show 53 + (26 + k) = 79 + k from by omega, q 79]; exact b2)
  · exact fl_of d3 (by rw [show 53 + (26 + k) = 79 + k from by omega, q 79]; exact b3)
  · exact fl_of d4 (by rw [q 53]; omega)
  · exact fl_of dt1 (by rw [show 53 + (52 + k) = 105 + k from by omega, q 105]; omega)
  · rcases hx.hi_or with ⟨x1, _⟩ | ⟨_, _, x3⟩
    · have d2' : (2 : Int) ^ (27 + k) ∣ H * M * 2 ^ k := shift_dvd (Int.dvd_trans x1 (Int.dvd_mul_right _ _))
      exact fl_of (Int.dvd_add (two_dvd_of_le (by omega) dt1) d2') (by rw [show 53 + (27 + k) = 80 + k from by omega, q 80]; omega)
    · have hpe := hp.self (exact2 A B x3 hy.lt)
      have hLB : (L * B * 2 ^ k).natAbs ≤ 604462909807314587353088 * U := by rw [shift_abs, hU]; exact Nat.mul_le_mul_right _ (mul_abs_le hx.lo_le (Nat.le_of_lt hy.lt))
      have eLB : L * B * 2 ^ k = L * G * 2 ^ k + L * M * 2 ^ k := by rw [hy.sum, Int.mul_add, Int.add_mul]
      exact fl_of (Int.dvd_add (two_dvd_of_le (by omega) dt1) d2) (by rw [show 53 + (26 + k) = 79 + k from by omega, q 79]; omega)
  · rcases hy.hi_or with ⟨y1, _⟩ | ⟨_, _, y3⟩
    · have d3' : (2 : Int) ^ (27 + k) ∣ L * G * 2 ^ k := shift_dvd (Int.dvd_trans y1 (Int.dvd_mul_left _ _))
      exact fl_of (Int.dvd_add (two_dvd_of_le (by omega) dt1) d3') (by rw [show 53 + (27 + k) = 80 + k from by omega, q 80]; omega)
    · have hpe := hp.self (by rw [Int.mul_comm A B]; exact exact2 B A y3 hx.lt)
      have hAM : (A * M * 2 ^ k).natAbs ≤ 604462909807314587353088 * U := by
        rw [shift_abs, hU]
        exact Nat.mul_le_mul_right _ (Nat.le_trans (mul_abs_le (Nat.le_of_lt hx.lt) hy.lo_le) (by decide))
      have eAM : A * M * 2 ^ k = H * M * 2 ^ k + L * M * 2 ^ k := by rw [hx.sum, Int.add_mul, Int.add_mul]
      exact fl_of (Int.dvd_add (two_dvd_of_le (by omega) dt1) d3) (by rw [show 53 + (26 + k) = 79 + k from by omega, q 79]; omega)
  · refine fl_of (e := k) (Int.dvd_add (Int.dvd_add (two_dvd_of_le (by omega) dt1) (two_dvd_of_le (by omega) d2)) (two_dvd_of_le (by omega) d3)) ?_
    rw [q 53]; omega
  · exact fl_of (Int.dvd_sub dP (two_dvd_of_le (by omega) dp)) (by rw [q 53]; omega)
end Flt

/- The two halves of a float over its last place; halves have few bits. No program is named here. -/
namespace Flt

/-- fewer than 28 bits, times a power of two -/
def FewI (n : Int) : Prop := ∃ (m : Int) (e : Nat), n = m * 2 ^ e ∧ m.natAbs < 2 ^ 27

theorem Halves.units {X hi lo : Int} {e : Nat} (h : Halves X e hi lo) (hd : (2 : Int) ^ e ∣ X) (hge : 2 ^ (52 + e) ≤ X.natAbs) (hlt : X.natAbs < 2 ^ (53 + e)) :
    ∃ A H L : Int, X = A * 2 ^ e ∧ hi = H * 2 ^ e ∧ lo = L * 2 ^ e ∧ HalvesU A H L := by
  have hU : 0 < 2 ^ e := Nat.pow_pos (by decide)
  have hUi := two_pos e
  obtain ⟨A, rfl⟩ := hd
  obtain ⟨L, hL⟩ := h.lo_dvd
  have hdh : (2 : Int) ^ e ∣ hi := by
    rcases h.hi_or with ⟨h1, _⟩ | ⟨h1, _⟩ <;> exact two_dvd_of_le (by omega) h1
  obtain ⟨H, hH⟩ := hdh
  have nA : ((2 : Int) ^ e * A).natAbs = A.natAbs * 2 ^ e := by rw [Int.mul_comm, shift_abs]
  have nH : hi.natAbs = H.natAbs * 2 ^ e := by rw [hH, Int.mul_comm, shift_abs]
  have nL : lo.natAbs = L.natAbs * 2 ^ e := by rw [hL, Int.mul_comm, shift_abs]
  have can {j : Nat} {x y : Int} (hx : y = 2 ^ e * x) (hdv : (2 : Int) ^ (j + e) ∣ y) : (2 : Int) ^ j ∣ x := by
    obtain ⟨k, hk⟩ := hdv
    refine ⟨k, Int.eq_of_mul_eq_mul_left (Int.ne_of_gt hUi) ?_⟩
    rw [← hx, hk, Int.pow_add]; ac_rfl
  refine ⟨A, H, L, Int.mul_comm _ _, by rw [hH, Int.mul_comm], by rw [hL, Int.mul_comm], ?_⟩
  refine ⟨?_, ?_, ?_, ?_, ?_⟩
  · rw [nA, Nat.pow_add] at hge
    exact Nat.le_of_mul_le_mul_right hge hU
  · rw [nA, Nat.pow_add] at hlt
    exact Nat.lt_of_mul_lt_mul_right hlt
  · have := h.sum
    rw [hH, hL, ← Int.mul_add] at this
    exact Int.eq_of_mul_eq_mul_left (Int.ne_of_gt hUi) this
  · have := h.lo_le
    rw [nL, Nat.pow_add] at this
    exact Nat.le_of_mul_le_mul_right this hU
  · rcases h.hi_or with ⟨h1, h2⟩ | ⟨h1, h2, h3⟩
    · refine Or.inl ⟨can hH h1, ?_⟩
      rw [nH, Nat.pow_add] at h2
      exact Nat.le_of_mul_le_mul_right h2 hU
    · refine Or.inr ⟨can hH h1, ?_, ?_⟩
      · rw [nH, Nat.pow_add, Nat.pow_add, ← Nat.add_mul] at h2
        exact Nat.le_of_mul_le_mul_right h2 hU
      · rw [nA, Nat.pow_add] at h3
        exact Nat.eq_of_mul_eq_mul_right hU h3

theorem HalvesU.few_hi {A H L : Int} (h : HalvesU A H L) : FewI H := by
  rcases h.hi_or with ⟨⟨k, hk⟩, h2⟩ | ⟨⟨k, hk⟩, h2, _⟩
  · refine ⟨k, 27, by rw [hk, Int.mul_comm], ?_⟩
    have : H.natAbs = 134217728 * k.natAbs := by rw [hk, Int.natAbs_mul]; rfl
    have e1 : (2 : Nat) ^ 53 = 9007199254740992 := rfl
    have e2 : (2 : Nat) ^ 27 = 134217728 := rfl
    omega
  · refine ⟨k, 26, by rw [hk, Int.mul_comm], ?_⟩
    have : H.natAbs = 67108864 * k.natAbs := by rw [hk, Int.natAbs_mul]; rfl
    have e1 : (2 : Nat) ^ 52 = 4503599627370496 := rfl
    have e2 : (2 : Nat) ^ 27 = 134217728 := rfl
    have e3 : (2 : Nat) ^ 26 = 67108864 := rfl
    omega
theorem HalvesU.few_lo {A H L : Int} (h : HalvesU A H L) : FewI L :=
  ⟨L, 0, by simp, Nat.lt_of_le_of_lt h.lo_le (by decide)⟩
theorem FewI.shift {n : Int} (h : FewI n) (k : Nat) : FewI (n * 2 ^ k) := by
  obtain ⟨m, e, rfl, hm⟩ := h
  exact ⟨m, e + k, by rw [Int.pow_add]; ac_rfl, hm⟩
end Flt

/- The words of nonnegative floats are in the floats' order. No program is named here. -/
namespace Flt
open Ieee

theorem v_small {x : Nat} (h : x < 4503599627370496) : vI x = x := by
  unfold vI
  rw [read_small (by omega)]
  show sval _ _ _ = _
  unfold sval
  rw [signed_eq, show x / 9223372036854775808 % 2 = 0 from by omega, show x % 9223372036854775808 = x from by omega]
  show (x : Int) * 2 ^ 0 = _
  omega
theorem v_mid {x : Nat} (h1 : 4503599627370496 ≤ x) (h : x < 9218868437227405312) : vI x = ((4503599627370496 + x % 4503599627370496 : Nat) : Int) * 2 ^ (x / 4503599627370496 - 1) := by
  unfold vI
  rw [read_mid (by omega) (by omega)]
  show sval _ _ _ = _
  unfold sval
  rw [signed_eq, show x / 9223372036854775808 % 2 = 0 from by omega, show x % 9223372036854775808 = x from by omega, show (-1074 + ((x / 4503599627370496 - 1 : Nat) : Int) + 1074).toNat = x / 4503599627370496 - 1 from by omega]
  rfl
theorem pw_ge (a : Int) (ha : 0 ≤ a) (k : Nat) : a ≤ a * 2 ^ k := by
  have h : 1 ≤ (2 : Int) ^ k := two_pos k
  have := Int.mul_le_mul_of_nonneg_left h ha
  omega
theorem v_lt {x y : Nat} (hxy : x < y) (hy : y < 9218868437227405312) : vI x < vI y := by
  by_cases h1 : y < 4503599627370496
  · rw [v_small h1, v_small (by omega)]; omega
  · rw [v_mid (by omega) hy]
    by_cases h2 : x < 4503599627370496
    · rw [v_small h2]
      have := pw_ge ((4503599627370496 + y % 4503599627370496 : Nat) : Int) (by omega) (y / 4503599627370496 - 1)
      omega
    · rw [v_mid (by omega) (by omega)]
      by_cases h3 : x / 4503599627370496 = y / 4503599627370496
      · rw [h3]
        exact Int.mul_lt_mul_of_pos_right (by omega) (two_pos _)
      · obtain ⟨d, hd⟩ : ∃ d, y / 4503599627370496 - 1 = (x / 4503599627370496 - 1) + (d + 1) := ⟨y / 4503599627370496 - x / 4503599627370496 - 1, by omega⟩
        have h4 : ((4503599627370496 + x % 4503599627370496 : Nat) : Int) < 2 * ((4503599627370496 + y % 4503599627370496 : Nat) : Int) := by omega
        have h5 := pw_ge (((4503599627370496 + y % 4503599627370496 : Nat) : Int) * 2) (by omega) d
        have h6 : ((4503599627370496 + x % 4503599627370496 : Nat) : Int) < ((4503599627370496 + y % 4503599627370496 : Nat) : Int) * 2 * 2 ^ d := by omega
        have h7 := Int.mul_lt_mul_of_pos_right h6 (two_pos (x / 4503599627370496 - 1))
        have e : ((4503599627370496 + y % 4503599627370496 : Nat) : Int) * 2 ^ (y / 4503599627370496 - 1) = ((4503599627370496 + y % 4503599627370496 : Nat) : Int) * 2 * 2 ^ d * 2 ^ (x / 4503599627370496 - 1) := by
          rw [hd, Int.pow_add, Int.pow_succ]; ac_rfl
        rw [e]; exact h7
theorem v_cmp {x y : Nat} (hx : x < 9218868437227405312) (hy : y < 9218868437227405312) : compare (vI x) (vI y) = compare x y := by
  rcases Nat.lt_trichotomy x y with h | h | h
  · have := v_lt h hy
    simp [compare, compareOfLessAndEq, this, h]
  · subst h
    simp [compare, compareOfLessAndEq]
  · have := v_lt h hx
    have n1 : ¬ vI x < vI y := by omega
    have n2 : ¬ vI x = vI y := by omega
    have n3 : ¬ x < y := by omega
    have n4 : ¬ x = y := by omega
    simp [compare, compareOfLessAndEq, n1, n2, n3, n4]
/-- of two nonnegative finite words -/
theorem order_words {x y : Nat} (hx : x < 9218868437227405312) (hy : y < 9218868437227405312) : double.order x y = some (compare x y) := by
  have e : (2 : Nat) ^ 64 = 18446744073709551616 := rfl
  rw [order_num (num_of (by omega) (by omega)) (num_of (by omega) (by omega)), v_cmp hx hy]
/-- the sign's word -/
theorem v_neg {x y : Nat} (hx : x = y + 9223372036854775808) (hy : y < 9218868437227405312) : vI x = - vI y := by
  have e1 : x % 9223372036854775808 = y := by omega
  have e2 : x / 9223372036854775808 % 2 = 1 := by omega
  clear hx
  by_cases h3 : y < 4503599627370496
  · rw [v_small h3]
    unfold vI
    rw [read_small (by rw [e1]; exact h3)]
    show sval _ _ _ = _
    unfold sval
    rw [signed_eq, e2, e1]
    show -((y : Int) * 2 ^ 0) = _
    omega
  · rw [v_mid (by omega) hy]
    unfold vI
    rw [read_mid (by rw [e1]; exact h3) (by rw [e1]; exact hy)]
    show sval _ _ _ = _
    unfold sval
    rw [signed_eq, e2, e1, show (-1074 + ((y / 4503599627370496 - 1 : Nat) : Int) + 1074).toNat = y / 4503599627370496 - 1 from by omega]
    rfl
theorem v_nonneg {x : Nat} (h : x < 9218868437227405312) : 0 ≤ vI x := by
  have e : vI 0 = 0 := by rw [v_small (by decide)]; rfl
  by_cases h0 : x = 0
  · rw [h0, e]; omega
  · have := v_lt (x := 0) (y := x) (by omega) h
    omega
theorem read_notfin {x : Nat} (h : ¬ x % 9223372036854775808 < 9218868437227405312) : (∃ s, double.read x = .infinity s) ∨ ∃ s p, double.read x = .nan s p := by
  unfold Format.read
  rw [weight_eq, binade_eq, inf_eq]
  have h1 : ¬ x % 9223372036854775808 < 4503599627370496 := by omega
  simp only [h1, h, if_false]
  split
  · exact Or.inl ⟨_, rfl⟩
  · exact Or.inr ⟨_, _, rfl⟩
theorem order_notfin {x y : Nat} (h : ¬ x % 9223372036854775808 < 9218868437227405312) (hy : y % 9223372036854775808 < 9218868437227405312) : (double.order x y == some .eq) = false := by
  have hr : ∃ s m i, double.read y = .number s m i := by
    by_cases c : y % 9223372036854775808 < 4503599627370496
    · exact ⟨_, _, _, read_small c⟩
    · exact ⟨_, _, _, read_mid c hy⟩
  obtain ⟨s, m, i, hr⟩ := hr
  unfold Format.order
  rw [hr]
  rcases read_notfin h with ⟨t, ht⟩ | ⟨t, p, ht⟩
  · rw [ht]; cases t <;> rfl
  · rw [ht]; rfl
theorem order_zero {x : Nat} (hx : x < 18446744073709551616) (h : x % 9223372036854775808 = 0) : double.order x 0 = some .eq := by
  have e : (2 : Nat) ^ 64 = 18446744073709551616 := rfl
  have z : vI 0 = 0 := by rw [v_small (by decide)]; rfl
  have hv : vI x = 0 := by
    by_cases c : x = 0
    · rw [c]; exact z
    · rw [v_neg (y := 0) (by omega) (by decide), z]; rfl
  rw [order_num (num_of (by omega) (by omega)) (num_of (x := 0) (by decide) (by decide)), hv, z]; rfl
theorem order_pos {x : Nat} (h0 : 0 < x) (h : x < 9218868437227405312) : double.order x 0 = some .gt := by
  rw [order_words h (by decide)]
  have n2 : ¬ x = 0 := by omega
  simp [compare, compareOfLessAndEq, n2]
theorem order_neg {x y : Nat} (hx : x = y + 9223372036854775808) (h0 : 0 < y) (h : y < 9218868437227405312) : double.order x 0 = some .lt := by
  have e : (2 : Nat) ^ 64 = 18446744073709551616 := rfl
  have z : vI 0 = 0 := by rw [v_small (by decide)]; rfl
  have hv := v_lt h0 h
  rw [z] at hv
  obtain ⟨q, hqe⟩ : ∃ q, q = - vI y := ⟨_, rfl⟩
  have hq : q < 0 := by omega
  rw [order_num (num_of (by omega) (by omega)) (num_of (x := 0) (by decide) (by decide)), v_neg hx h, z, ← hqe]
  show some (compareOfLessAndEq q 0) = _
  unfold compareOfLessAndEq
  rw [if_pos hq]
theorem cmp_lt {x y : Nat} (h : x < y) : compare x y = .lt := by simp [compare, compareOfLessAndEq, h]
theorem cmp_eq (x : Nat) : compare x x = .eq := by simp [compare, compareOfLessAndEq]
theorem cmp_gt {x y : Nat} (h : y < x) : compare x y = .gt := by
  have n1 : ¬ x < y := by omega
  have n2 : ¬ x = y := by omega
  simp [compare, compareOfLessAndEq, n1, n2]
end Flt
