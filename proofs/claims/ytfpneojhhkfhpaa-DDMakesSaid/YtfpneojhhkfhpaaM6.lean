/- Merged texts: AddK, MildN, MulK, ESplit, EProd, Pure4, MulC, Keep, Arr, Duo, AddC, Pair4. -/
import Derived.Test.YtfpneojhhkfhpaaM5
import Derived.Test.YtfpneojhhkfhpaaM1
import Derived.Test.YtfpneojhhkfhpaaM2
import Derived.Test.YtfpneojhhkfhpaaM3
import Derived.Deep.DeepCutAuto
import Derived.Carry
import Derived.ChangeSlices
import Derived.ProofKit
import Derived.WalkKit
import Derived.OpenShut
import Derived.Lib.SmallJoins
import Derived.Laws.IdiomArrays
import Derived.Test.YtfpneojhhkfhpaaM4
/- Layer 4's landed dd: a sum of two numbers by four sums of what is kept: sizes, what divides, the error. Over whole numbers. No program is named here. -/
namespace Go.Proofs.Ytfpneojhhkfhpaa
open Go.RowKit

/-- what Add bears -/
structure AddIn (H L : Int) : Prop where
  dH : (2 : Int) ^ 674 ∣ H
  le : H.natAbs ≤ 2 ^ 1240
  lo : L.natAbs * Flt.K53 ≤ H.natAbs + L.natAbs
  dL : (2 : Int) ^ 622 ∣ kp L
theorem kpH {H : Int} (h : (2 : Int) ^ 674 ∣ H) : kp H = H := kp_id (k := 674) (by decide) (ge_of_dvd (e := 674) (k := 674) h (by decide))
theorem AddIn.le2 {H L : Int} (h : AddIn H L) : L.natAbs ≤ 2 ^ 1240 := by
  have h1 := h.lo
  have h2 : 4 * L.natAbs ≤ L.natAbs * Flt.K53 := by rw [Nat.mul_comm]; exact Nat.mul_le_mul_left _ Flt.K53_ge
  have h3 := h.le
  omega
theorem AddIn.lok {H L : Int} (h : AddIn H L) : (kp L).natAbs * Flt.K53 ≤ H.natAbs + (kp L).natAbs := by
  rcases kp_or L with ⟨h1, _⟩ | ⟨h1, _⟩ <;> rw [h1]
  · simp
  · exact h.lo
theorem AddIn.zero {H L : Int} (h : AddIn H L) (h0 : H = 0) : L = 0 := by
  have h1 := h.lo
  have h2 : 4 * L.natAbs ≤ L.natAbs * Flt.K53 := by rw [Nat.mul_comm]; exact Nat.mul_le_mul_left _ Flt.K53_ge
  rw [h0] at h1
  simp at h1
  omega
/-- the steps -/
structure AddRk (H L H' L' s1 e1 t1 f1 v s2 e2 g Z : Int) : Prop where
  r_s1 : s1 = Flt.rn (H + H')
  r_e1 : e1 = H + H' - s1
  r_t1 : t1 = Flt.rn (kp L + kp L')
  r_f1 : f1 = kp L + kp L' - t1
  r_v : v = Flt.rn (e1 + t1)
  r_s2 : s2 = Flt.rn (s1 + kp v)
  r_e2 : e2 = s1 + kp v - s2
  r_g : g = Flt.rn (e2 + f1)
  r_Z : Z = kp s2 + kp g
section
variable {H L H' L' s1 e1 t1 f1 v s2 e2 g Z : Int}
theorem AddRk.dvd (h : AddRk H L H' L' s1 e1 t1 f1 v s2 e2 g Z) (hi : AddIn H L) (hi' : AddIn H' L') : (2 : Int) ^ 622 ∣ Z ∧ (2 : Int) ^ 674 ∣ s1 := by
  obtain ⟨h1, h2, h3, h4, h5, h6, h7, h8, h9⟩ := h
  have d0 : (2 : Int) ^ 674 ∣ s1 := h1 ▸ rn_dvd (Int.dvd_add hi.dH hi'.dH)
  have w : ∀ {n : Int}, (2 : Int) ^ 674 ∣ n → (2 : Int) ^ 622 ∣ n := fun h => Flt.two_dvd_of_le (e := 622) (f := 674) (by decide) h
  have d1 := w d0
  have d2 : (2 : Int) ^ 622 ∣ e1 := h2 ▸ Int.dvd_sub (Int.dvd_add (w hi.dH) (w hi'.dH)) d1
  have d3 : (2 : Int) ^ 622 ∣ t1 := h3 ▸ rn_dvd (Int.dvd_add hi.dL hi'.dL)
  have d4 : (2 : Int) ^ 622 ∣ f1 := h4 ▸ Int.dvd_sub (Int.dvd_add hi.dL hi'.dL) d3
  have d5 : (2 : Int) ^ 622 ∣ v := h5 ▸ rn_dvd (Int.dvd_add d2 d3)
  have d6 : (2 : Int) ^ 622 ∣ s2 := h6 ▸ rn_dvd (Int.dvd_add d1 (kp_dvd d5))
  have d7 : (2 : Int) ^ 622 ∣ e2 := h7 ▸ Int.dvd_sub (Int.dvd_add d1 (kp_dvd d5)) d6
  have d8 : (2 : Int) ^ 622 ∣ g := h8 ▸ rn_dvd (Int.dvd_add d7 d4)
  exact ⟨h9 ▸ Int.dvd_add (kp_dvd d6) (kp_dvd d8), d0⟩
theorem AddRk.zero (h : AddRk H L H' L' s1 e1 t1 f1 v s2 e2 g Z) (hi : AddIn H L) (hi' : AddIn H' L') (h0 : H = 0) (h0' : H' = 0) : Z = 0 := by
  have k1 := hi.zero h0
  have k2 := hi'.zero h0'
  subst h0 h0' k1 k2
  obtain ⟨h1, h2, h3, h4, h5, h6, h7, h8, h9⟩ := h
  rw [Int.add_zero, Flt.rn_zero] at h1
  subst h1
  rw [Int.add_zero, Int.sub_zero] at h2
  subst h2
  rw [kp_zero, Int.add_zero, Flt.rn_zero] at h3
  subst h3
  rw [kp_zero, Int.add_zero, Int.sub_zero] at h4
  subst h4
  rw [Int.add_zero, Flt.rn_zero] at h5
  subst h5
  rw [kp_zero, Int.add_zero, Flt.rn_zero] at h6
  subst h6
  rw [kp_zero, Int.add_zero, Int.sub_zero] at h7
  subst h7
  rw [Int.add_zero, Flt.rn_zero] at h8
  subst h8
  rw [kp_zero, Int.add_zero] at h9
  exact h9
structure AddBk (V : Nat) (s1 e1 t1 f1 v s2 e2 g Z : Int) : Prop where
  b_s1 : s1.natAbs ≤ 4 * V
  b_e1 : e1.natAbs ≤ 8 * V
  b_t1 : t1.natAbs ≤ 4 * V
  b_f1 : f1.natAbs ≤ 8 * V
  b_v : v.natAbs ≤ 32 * V
  b_s2 : s2.natAbs ≤ 128 * V
  b_e2 : e2.natAbs ≤ 256 * V
  b_g : g.natAbs ≤ 1024 * V
  b_Z : Z.natAbs ≤ 2048 * V
theorem AddRk.bounds {V : Nat} (h : AddRk H L H' L' s1 e1 t1 f1 v s2 e2 g Z) (bH : H.natAbs ≤ V) (bL : L.natAbs ≤ V) (bH' : H'.natAbs ≤ V) (bL' : L'.natAbs ≤ V) : AddBk V s1 e1 t1 f1 v s2 e2 g Z := by
  obtain ⟨h1, h2, h3, h4, h5, h6, h7, h8, h9⟩ := h
  have k1 : (H + H').natAbs ≤ 2 * V := na_add bH bH' (by omega)
  have k2 : (kp L + kp L').natAbs ≤ 2 * V := na_add (kp_up bL) (kp_up bL') (by omega)
  have q1 : s1.natAbs ≤ 4 * V := h1 ▸ na_rn k1 (by omega)
  have q2 : e1.natAbs ≤ 8 * V := h2 ▸ na_sub k1 q1 (by omega)
  have q3 : t1.natAbs ≤ 4 * V := h3 ▸ na_rn k2 (by omega)
  have q4 : f1.natAbs ≤ 8 * V := h4 ▸ na_sub k2 q3 (by omega)
  have q5 : v.natAbs ≤ 32 * V := h5 ▸ na_rn (na_add q2 q3 (Nat.le_refl _)) (by omega)
  have k3 : (s1 + kp v).natAbs ≤ 64 * V := na_add q1 (kp_up q5) (by omega)
  have q6 : s2.natAbs ≤ 128 * V := h6 ▸ na_rn k3 (by omega)
  have q7 : e2.natAbs ≤ 256 * V := h7 ▸ na_sub k3 q6 (by omega)
  have q8 : g.natAbs ≤ 1024 * V := h8 ▸ na_rn (na_add q7 q4 (Nat.le_refl _)) (by omega)
  have q9 : Z.natAbs ≤ 2048 * V := h9 ▸ na_add (kp_up q6) (kp_up q8) (by omega)
  exact ⟨q1, q2, q3, q4, q5, q6, q7, q8, q9⟩
theorem five {a b c d e q : Nat} (ha : a ≤ q) (hb : b ≤ q) (hc : c ≤ q) (hd : d ≤ q) (he : e ≤ q) : a + b + c + d + e ≤ 5 * q := by omega
theorem sum7 {Z X A B C D E F G : Int} (h : Z - X = A + B + C + D + E + F + G) : (Z - X).natAbs ≤ A.natAbs + B.natAbs + (C.natAbs + D.natAbs + E.natAbs + F.natAbs + G.natAbs) := by
  rw [h]
  have h1 := Int.natAbs_add_le (A + B + C + D + E + F) G
  have h2 := Int.natAbs_add_le (A + B + C + D + E) F
  have h3 := Int.natAbs_add_le (A + B + C + D) E
  have h4 := Int.natAbs_add_le (A + B + C) D
  have h5 := Int.natAbs_add_le (A + B) C
  have h6 := Int.natAbs_add_le A B
  omega
/-- the error -/
theorem AddRk.err {B : Nat} (h : AddRk H L H' L' s1 e1 t1 f1 v s2 e2 g Z) (hi : AddIn H L) (hi' : AddIn H' L') (hh : H.natAbs ≤ B) (hh' : H'.natAbs ≤ B) : (Z - (H + L + (H' + L'))).natAbs * Flt.K53 * Flt.K53 ≤ 38 * B + 5 * (q400 * Flt.K53 * Flt.K53) := by
  obtain ⟨h1, h2, h3, h4, h5, h6, h7, h8, h9⟩ := h
  have n1 : Flt.Near (H + H') s1 := h1 ▸ Flt.rn_near _
  have n2 : Flt.Near (kp L + kp L') t1 := h3 ▸ Flt.rn_near _
  have n3 : Flt.Near (e1 + t1) v := h5 ▸ Flt.rn_near _
  have n4 : Flt.Near (s1 + kp v) s2 := h6 ▸ Flt.rn_near _
  have n5 : Flt.Near (e2 + f1) g := h8 ▸ Flt.rn_near _
  have x1 : s1 + e1 = H + H' := by omega
  have x2 : t1 + f1 = kp L + kp L' := by omega
  have x4 : s2 + e2 = s1 + kp v := by omega
  have hv := kp_le v
  have b := Flt.add_bound (K := Flt.K53) (B := B) (l := (kp L).natAbs) (l' := (kp L').natAbs) (e1 := e1.natAbs) (f1 := f1.natAbs) (t1 := t1.natAbs) (v := (kp v).natAbs) (d1 := (v - (e1 + t1)).natAbs) (s1 := s1.natAbs) (e2 := e2.natAbs) (d2 := (g - (e2 + f1)).natAbs) Flt.K53_ge hh hh' hi.lok hi'.lok
    (Nat.le_trans (Flt.near_part n1 x1) (by omega)) (Nat.le_trans (Flt.near_part n2 x2) (by omega)) (by omega) (Nat.le_trans n3.relK (by omega)) (by omega) (by omega) (Nat.le_trans (Flt.near_part n4 x4) (by omega)) (Nat.le_trans n5.relK (by omega))
  have e0 : Z - (H + L + (H' + L')) = (v - (e1 + t1)) + (g - (e2 + f1)) + (kp s2 - s2) + (kp g - g) + (kp v - v) + (kp L - L) + (kp L' - L') := by omega
  have e1 := sum7 e0
  have e2 := five (kp_err s2) (kp_err g) (kp_err v) (kp_err L) (kp_err L')
  have e3 := Nat.le_trans e1 (Nat.add_le_add_left e2 _)
  have e4 := Nat.mul_le_mul_right Flt.K53 (Nat.mul_le_mul_right Flt.K53 e3)
  rw [Nat.add_mul, Nat.add_mul] at e4
  refine Nat.le_trans e4 (Nat.add_le_add b (Nat.le_of_eq ?_))
  rw [Nat.mul_assoc, Nat.mul_assoc, Nat.mul_assoc]
end
theorem K53_pow : Flt.K53 = 2 ^ 53 := by rw [Flt.K53_eq]
theorem pw4 (a b c d : Nat) : 2 ^ a * (2 ^ b * 2 ^ c * 2 ^ d) = 2 ^ (a + (b + c + d)) := by rw [Nat.pow_add, Nat.pow_add, Nat.pow_add]
theorem small_pow {a b c d k n : Nat} (h : 2 ^ k ≤ n) (hk : a + (b + c + d) ≤ k) : 2 ^ a * (2 ^ b * 2 ^ c * 2 ^ d) ≤ n := by
  rw [pw4]
  exact Nat.le_trans (Flt.two_le hk) h
/-- what is not kept, beside a tame number -/
theorem q400_small {n : Nat} (h : 2 ^ 930 ≤ n) : 2 ^ 7 * (q400 * Flt.K53 * Flt.K53) ≤ n := by
  rw [q400_eq, K53_pow]
  exact small_pow (a := 7) (b := 674) (c := 53) (d := 53) (k := 930) h (by decide)
/-- a tame number is one that Add bears -/
theorem AddIn.tame {x y : Nat} {H L : Int} (hx : Flt.Num x H) (hy : Flt.Num y L) (h : Flt.TameN H L) : AddIn H L := by
  have hu := TameN.up h
  refine ⟨?_, Nat.le_trans hu.1 (Flt.two_le (a := 1220) (b := 1240) (by decide)), Flt.near_lo (TameN.rn h), kp_fl_dvd hy.fl⟩
  rcases h with ⟨h1, _⟩ | ⟨h1, _, _, _⟩
  · rw [h1]; exact Int.dvd_zero _
  · exact Flt.two_dvd_of_le (e := 674) (f := 878) (by decide) (fl_dvd_of (e := 878) (k := 930) (by decide) hx.fl (Or.inr h1))
/-- the error that a sum of tame numbers may have -/
theorem AddRk.said {H L H' L' s1 e1 t1 f1 v s2 e2 g Z : Int} (h : AddRk H L H' L' s1 e1 t1 f1 v s2 e2 g Z) (hi : AddIn H L) (hi' : AddIn H' L') (hT : Flt.TameN H L) (hT' : Flt.TameN H' L') : AddErr H L H' L' Z := by
  refine ⟨fun h0 h0' => h.zero hi hi' h0 h0', fun T hT96 a b => ?_⟩
  by_cases hz : H = 0 ∧ H' = 0
  · rw [h.zero hi hi' hz.1 hz.2, hi.zero hz.1, hi'.zero hz.2, hz.1, hz.2]
    simpa using Flt.two_posN _
  · have hq : 2 ^ 7 * (q400 * Flt.K53 * Flt.K53) ≤ 2 ^ T := by
      rcases hT with ⟨z, _⟩ | ⟨h1, _, _, _⟩
      · rcases hT' with ⟨z', _⟩ | ⟨h1, _, _, _⟩
        · exact absurd ⟨z, z'⟩ hz
        · exact q400_small (Nat.le_of_lt (Nat.lt_of_le_of_lt h1 b))
      · exact q400_small (Nat.le_of_lt (Nat.lt_of_le_of_lt h1 a))
    have he := h.err hi hi' (Nat.le_of_lt a) (Nat.le_of_lt b)
    rw [show (2 : Nat) ^ 7 = 128 from rfl] at hq
    exact Flt.err_pow (C := 39) (T := T) (by omega) (by decide) hT96 (by decide)
end Go.Proofs.Ytfpneojhhkfhpaa

/- Mild numbers (layer 3). No program is named here. -/
namespace Go.Proofs.Ytfpneojhhkfhpaa
open Go.RowKit

/-- mild: 0, or from 2^-400 to below 2^400, in units of 2^-1074 -/
def mlo : Nat := 674
def mhi : Nat := 1474
def MildN (n : Int) : Prop := n = 0 ∨ (2 ^ mlo ≤ n.natAbs ∧ n.natAbs < 2 ^ mhi)
theorem pw_lo {X a j i k : Nat} (h : 2 ^ a ≤ X) (hj : j ≤ i) (hk : k = a + j) : 2 ^ k ≤ X * 2 ^ i := by
  rw [hk, Nat.pow_add]; exact Nat.mul_le_mul h (Nat.pow_le_pow_right (by decide) hj)
theorem pw_hi {X a j i k : Nat} (h : X < 2 ^ a) (hj : i ≤ j) (hk : k = a + j) : X * 2 ^ i < 2 ^ k := by
  have h1 : X * 2 ^ i < 2 ^ a * 2 ^ i := Nat.mul_lt_mul_of_pos_right h (Nat.pow_pos (by decide))
  rw [← Nat.pow_add] at h1
  rw [hk]
  exact Nat.lt_of_lt_of_le h1 (Nat.pow_le_pow_right (by decide) (by omega))
end Go.Proofs.Ytfpneojhhkfhpaa

/- Layer 4's landed dd: a product of two numbers, by what is kept: sizes, what divides, the error. Over whole numbers. No program is named here. -/
namespace Go.Proofs.Ytfpneojhhkfhpaa
open Go.RowKit

theorem TameN.mild {H L : Int} (h : Flt.TameN H L) : MildN H := by
  rcases h with ⟨h, _⟩ | ⟨h1, h2, _, _⟩
  · exact Or.inl h
  · exact Or.inr ⟨Nat.le_trans (Flt.two_le (a := mlo) (b := 930) (by decide)) h1, Nat.lt_of_lt_of_le h2 (Flt.two_le (a := 1220) (b := mhi) (by decide))⟩
theorem uE_cancel {a b : Int} (h : a * 2 ^ Flt.uE = b * 2 ^ Flt.uE) : a = b := Int.eq_of_mul_eq_mul_right (Int.ne_of_gt (Flt.two_pos _)) h
/-- a product's parts, and what is kept of them -/
structure MulRk (H L H' L' P Q1 Q2 Q3 p e m1 m2 c f Z : Int) : Prop where
  R : MulR H L H' L' P Q1 Q2 Q3 p e m1 m2 c f
  hP : P = 0 ∨ 2 ^ 786 ≤ P.natAbs
  rZ : Z = kp p + kp f
  fp : Flt.FL p
  ff : Flt.FL f
section
variable {H L H' L' P Q1 Q2 Q3 p e m1 m2 c f Z : Int}
theorem near_ge2 {n z : Int} (hz : Flt.Near n z) : n.natAbs ≤ 2 * z.natAbs := by
  have h := hz.relK
  have h3 : 4 * (z - n).natAbs ≤ (z - n).natAbs * Flt.K53 := by rw [Nat.mul_comm]; exact Nat.mul_le_mul_left _ Flt.K53_ge
  omega
theorem half {s P : Nat} {k j : Nat} (hj : j = k + 1) (h : P ≤ 2 * s) (hP : 2 ^ j ≤ P) : 2 ^ k ≤ s := by
  rw [hj, Nat.pow_add] at hP
  omega
theorem MulRk.kpp (h : MulRk H L H' L' P Q1 Q2 Q3 p e m1 m2 c f Z) : kp p = p := by
  rcases h.hP with h0 | h0
  · have h1 := h.R.le.1
    rw [h0] at h1
    exact kp_id (k := 674) (by decide) (Or.inl (by omega))
  · have h1 := half (k := 785) (j := 786) (by decide) (near_ge2 h.R.n1) h0
    exact kp_id (k := 785) (by decide) (Or.inr h1)
theorem MulRk.dvd (h : MulRk H L H' L' P Q1 Q2 Q3 p e m1 m2 c f Z) : (2 : Int) ^ 622 ∣ Z := by
  rw [h.rZ]
  exact Int.dvd_add (kp_fl_dvd h.fp) (kp_fl_dvd h.ff)
theorem MulRk.zero (h : MulRk H L H' L' P Q1 Q2 Q3 p e m1 m2 c f Z) (h0 : P = 0) : Z = 0 := by
  obtain ⟨h1, _, _, _, _, h6⟩ := h.R.le
  rw [h0] at h1 h6
  have hp : p = 0 := by omega
  have hf : f = 0 := by omega
  rw [h.rZ, hp, hf, kp_zero]; rfl
theorem small_pow3 {b c d k n : Nat} (h : 2 ^ k ≤ n) (hk : b + c + d ≤ k) : 2 ^ b * 2 ^ c * 2 ^ d ≤ n := by
  rw [← Nat.pow_add, ← Nat.pow_add]
  exact Nat.le_trans (Flt.two_le hk) h
theorem q400_P {n : Nat} (h : 2 ^ 786 ≤ n) : q400 * Flt.K53 * Flt.K53 ≤ n := by
  rw [q400_eq, K53_pow]
  exact small_pow3 (b := 674) (c := 53) (d := 53) (k := 786) h (by decide)
theorem MulRk.bound (h : MulRk H L H' L' P Q1 Q2 Q3 p e m1 m2 c f Z) : (Z - (P + Q1 + Q2 + Q3)).natAbs * Flt.K53 * Flt.K53 ≤ 65 * P.natAbs := by
  rcases h.hP with h0 | h0
  · have hb := h.R.bound
    obtain ⟨h1, _, _, _, _, h6⟩ := h.R.le
    have hZ := h.zero h0
    rw [h0] at h1 h6 hb
    have hp : p = 0 := by omega
    have hf : f = 0 := by omega
    rw [hp, hf] at hb
    rw [hZ, h0]
    simpa using hb
  · have hb := h.R.bound
    have e0 : (Z - (P + Q1 + Q2 + Q3)).natAbs ≤ (p + f - (P + Q1 + Q2 + Q3)).natAbs + (kp f - f).natAbs := by
      have e1 : Z - (P + Q1 + Q2 + Q3) = (p + f - (P + Q1 + Q2 + Q3)) + (kp f - f) := by rw [h.rZ, h.kpp]; omega
      rw [e1]
      exact Int.natAbs_add_le _ _
    have e1 := Nat.mul_le_mul_right Flt.K53 (Nat.mul_le_mul_right Flt.K53 (Nat.le_trans e0 (Nat.add_le_add_left (kp_err f) _)))
    rw [Nat.add_mul, Nat.add_mul] at e1
    have e2 := q400_P h0
    omega
theorem MulRk.up (h : MulRk H L H' L' P Q1 Q2 Q3 p e m1 m2 c f Z) : Z.natAbs ≤ 34 * P.natAbs := by
  obtain ⟨h1, _, _, _, _, h6⟩ := h.R.le
  rw [h.rZ]
  exact na_add (kp_up h1) (kp_up h6) (by omega)
theorem MulRk.prod (h : MulRk H L H' L' P Q1 Q2 Q3 p e m1 m2 c f Z) : (H + L) * (H' + L') = (P + Q1 + Q2 + Q3) * 2 ^ Flt.uE := by
  rw [Int.add_mul, Int.mul_add, Int.mul_add, h.R.hP, h.R.h1, h.R.h2, h.R.h3, Int.add_mul, Int.add_mul, Int.add_mul]
  omega
theorem MulRk.err (h : MulRk H L H' L' P Q1 Q2 Q3 p e m1 m2 c f Z) : MulErr H L H' L' Z := by
  have hb := h.bound
  have hX := h.prod
  obtain ⟨D, hD⟩ : ∃ D, D = Z - (P + Q1 + Q2 + Q3) := ⟨_, rfl⟩
  have hDu : Z * 2 ^ Flt.uE - (H + L) * (H' + L') = D * 2 ^ Flt.uE := by rw [hX, hD, Int.sub_mul]
  rw [← hD] at hb
  have hPa : P.natAbs * 2 ^ Flt.uE = H.natAbs * H'.natAbs := by rw [← Flt.natAbs_uE, ← h.R.hP, Int.natAbs_mul]
  refine ⟨fun h0 => ?_, fun T U hTU a b => ?_⟩
  · refine h.zero ?_
    have : P.natAbs * 2 ^ Flt.uE = 0 := by
      rw [hPa]
      rcases h0 with h0 | h0
      · rw [h0]; simp
      · rw [h0]; simp
    rcases Nat.mul_eq_zero.1 this with k | k
    · omega
    · exact absurd k (Nat.pos_iff_ne_zero.1 (Flt.two_posN _))
  · rw [hDu, Flt.natAbs_uE]
    have k1 : H.natAbs * H'.natAbs < 2 ^ T * 2 ^ U := Nat.mul_lt_mul'' a b
    rw [← Nat.pow_add, ← hPa] at k1
    refine Flt.err_pow (C := 65) ?_ (by decide) hTU (by decide)
    have k2 := Nat.mul_le_mul_right (2 ^ Flt.uE) hb
    obtain ⟨M, hM⟩ : ∃ M, M = 2 ^ Flt.uE := ⟨_, rfl⟩
    obtain ⟨W, hW⟩ : ∃ W, W = 2 ^ (T + U) := ⟨_, rfl⟩
    rw [← hM] at k1 k2 ⊢
    rw [← hW] at k1 ⊢
    calc D.natAbs * M * Flt.K53 * Flt.K53 = D.natAbs * Flt.K53 * Flt.K53 * M := by ac_rfl
      _ ≤ 65 * P.natAbs * M := k2
      _ = 65 * (P.natAbs * M) := by rw [Nat.mul_assoc]
      _ ≤ 65 * W := Nat.mul_le_mul_left _ (Nat.le_of_lt k1)
end
/-- what Mul bears -/
structure MulIn (H L H' L' : Int) : Prop where
  rL : Flt.rn (H + L) = H
  rL' : Flt.rn (H' + L') = H'
  fH : Flt.FromN 700 H
  fL : Flt.FromN 622 L
  fH' : Flt.FromN 700 H'
  fL' : Flt.FromN 622 L'
  mH : MildN H
  mH' : MildN H'
  sz : ∀ P : Int, H * H' = P * 2 ^ Flt.uE → (P = 0 ∨ 2 ^ 786 ≤ P.natAbs) ∧ P.natAbs ≤ 2 ^ 1366
theorem FromN.down {e f : Nat} {n : Int} (h : Flt.FromN e n) (hf : f ≤ e) : Flt.FromN f n := by
  rcases h with h | ⟨h1, h2⟩
  · exact Or.inl h
  · exact Or.inr ⟨Nat.le_trans (Flt.two_le (by omega)) h1, h2⟩
theorem mild_kp {n : Int} (h : MildN n) : kp n = n := by
  rcases h with h | ⟨h, _⟩
  · rw [h, kp_zero]
  · exact kp_id (k := mlo) (by decide) (Or.inr h)
theorem MulIn.tame {H L H' L' : Int} (hT : Flt.TameN H L) (hT' : Flt.TameN H' L') : MulIn H L H' L' := by
  obtain ⟨fH, fL⟩ := TameN.from hT
  obtain ⟨fH', fL'⟩ := TameN.from hT'
  exact ⟨TameN.rn hT, TameN.rn hT', FromN.down fH (by decide), fL, FromN.down fH' (by decide), fL', TameN.mild hT, TameN.mild hT', fun P hP => prod_size hT hT' hP⟩
end Go.Proofs.Ytfpneojhhkfhpaa

/- eft.Split: a mild float in two halves. -/
namespace Go.Proofs.Ytfpneojhhkfhpaa
open Go.RowKit

theorem split_run {x c d h l : Nat} (w : World) (h1 : Ieee.double.mul 4728779608772575232 x = some c) (h2 : Ieee.double.sub c x = some d) (h3 : Ieee.double.sub c d = some h) (h4 : Ieee.double.sub x h = some l) :
    Calls Try.prog 40 #[.float .f64 x] w fun r w' => r = .returned (.tuple #[.float .f64 h, .float .f64 l]) ∧ w = w' := by
  have o1 := fun w => run_fmul (P := Try.prog) 22 h1 w
  have o2 := fun w => run_fsub (P := Try.prog) 22 h2 w
  have o3 := fun w => run_fsub (P := Try.prog) 22 h3 w
  have o4 := fun w => run_fsub (P := Try.prog) 22 h4 w
  clear h1 h2 h3 h4
  go_enter Try.func40, Try.ntmps40
  go_wp2
  go_ret2
  exact ⟨rfl, rfl⟩
end Go.Proofs.Ytfpneojhhkfhpaa

/- eft.Split and eft.Prod of mild floats. -/
namespace Go.Proofs.Ytfpneojhhkfhpaa
open Go.RowKit

/-- a mild number but 0: its last place -/
theorem mild_place {n : Int} (hf : Flt.FL n) (h1 : 2 ^ mlo ≤ n.natAbs) (h2 : n.natAbs < 2 ^ mhi) : ∃ e : Nat, (2 : Int) ^ e ∣ n ∧ 2 ^ (52 + e) ≤ n.natAbs ∧ n.natAbs < 2 ^ (53 + e) ∧ 600 ≤ e ∧ e ≤ 1500 := by
  obtain ⟨e, hd, hlt, hc⟩ := Flt.canon hf
  have e1 := Flt.two_lt (Nat.lt_of_le_of_lt h1 hlt)
  have q1 : mlo = 674 := rfl
  have q2 : mhi = 1474 := rfl
  have hc2 : 2 ^ (52 + e) ≤ n.natAbs := by
    rcases hc with h | h
    · omega
    · exact h
  have e2 := Flt.two_lt (Nat.lt_of_le_of_lt hc2 h2)
  exact ⟨e, hd, hc2, hlt, by omega, by omega⟩
theorem split_any (x : Nat) (n : Int) (w : World) (hx : Flt.Num x n) (hn : MildN n) :
    Calls Try.prog 40 #[.float .f64 x] w fun r w' => ∃ h l, r = .returned (.tuple #[.float .f64 h, .float .f64 l]) ∧ Flt.HalfW x h l n ∧ w = w' := by
  rcases hn with rfl | ⟨h1, h2⟩
  · obtain ⟨c, d, h, l, m1, m2, m3, m4, nh, nl⟩ := Flt.split_zero hx
    exact (split_run w m1 m2 m3 m4).mono fun r w' k => ⟨h, l, k.1, ⟨hx, Or.inl ⟨rfl, nh, nl⟩⟩, k.2⟩
  · obtain ⟨e, hd, hge, hlt, e1, e2⟩ := mild_place hx.fl h1 h2
    obtain ⟨c, d, h, l, H, L, m1, m2, m3, m4, nh, nl, hH⟩ := Flt.split_words hx hd hge hlt e1 e2
    obtain ⟨A, H', L', a1, a2, a3, hU⟩ := hH.units hd hge hlt
    exact (split_run w m1 m2 m3 m4).mono fun r w' k => ⟨h, l, k.1, ⟨hx, Or.inr ⟨e, A, H', L', e1, e2, a1, a2 ▸ nh, a3 ▸ nl, hU⟩⟩, k.2⟩

set_option maxHeartbeats 1000000 in
theorem prod_any (x y : Nat) (a b : Int) (w : World) (hx : Flt.Num x a) (hy : Flt.Num y b) (ha : MildN a) (hb : MildN b) :
    Calls Try.prog 34 #[.float .f64 x, .float .f64 y] w fun r w' => ∃ p e π ε, r = .returned (.tuple #[.float .f64 p, .float .f64 e]) ∧ Ieee.double.mul x y = some p ∧ Flt.Num p π ∧ Flt.Num e ε ∧ a * b = (π + ε) * 2 ^ Flt.uE ∧ (∃ P, a * b = P * 2 ^ Flt.uE ∧ Flt.Near P π) ∧ w = w' := by
  obtain ⟨p0, hp0⟩ : ∃ p0, Ieee.double.mul x y = some p0 := by
    obtain ⟨s, m, i, hr, _⟩ := hx.ex
    obtain ⟨t, n, j, hr', _⟩ := hy.ex
    unfold Ieee.Format.mul
    rw [hr, hr']
    exact ⟨_, rfl⟩
  have o0 := fun w => run_fmul (P := Try.prog) 22 hp0 w
  have hp0H := Lib.hid hp0
  clear hp0
  go_enter Try.func34, Try.ntmps34
  go_wp2_with fail
  refine (split_any x a _ hx ha).mono ?_; rintro r w1 ⟨h, l, rfl, hX, rfl⟩
  go_wp2_with fail
  refine (split_any y b _ hy hb).mono ?_; rintro r w1 ⟨g, m, rfl, hY, rfl⟩
  obtain ⟨p, e, π, ε, hW, hsum, hnear⟩ := Flt.prod_words hX hY
  obtain ⟨hg, t1, hm, t2, lg, t3, lm, q1, r1, q2, r2, q3, r3, q4, r4⟩ := hW.ops
  have epp : p0 = p := by have := hp0H.out.symm.trans hW.hp; cases this; rfl
  subst epp
  have o1 := fun w => run_fmul (P := Try.prog) 22 q1 w
  have o2 := fun w => run_fsub (P := Try.prog) 22 r1 w
  have o3 := fun w => run_fmul (P := Try.prog) 22 q2 w
  have o4 := fun w => run_fadd (P := Try.prog) 22 r2 w
  have o5 := fun w => run_fmul (P := Try.prog) 22 q3 w
  have o6 := fun w => run_fadd (P := Try.prog) 22 r3 w
  have o7 := fun w => run_fmul (P := Try.prog) 22 q4 w
  have o8 := fun w => run_fadd (P := Try.prog) 22 r4 w
  have fin := Lib.hid (And.intro hW.np (And.intro hW.ne (And.intro hsum hnear)))
  clear q1 r1 q2 r2 q3 r3 q4 r4 hW hsum hnear hX hY hx hy ha hb
  go_wp2
  go_ret2
  obtain ⟨f1, f2, f3, f4⟩ := fin.out
  exact ⟨p0, e, π, ε, rfl, hp0H.out, f1, f2, f3, f4, rfl⟩
end Go.Proofs.Ytfpneojhhkfhpaa

/- eft.Split, eft.Prod and what is kept, as functions: the words that they answer are known ahead of the call. -/
namespace Go.Proofs.Ytfpneojhhkfhpaa
open Go.RowKit

theorem split_pure (x : Nat) (n : Int) (hx : Flt.Num x n) (hn : MildN n) :
    ∃ h l, Flt.HalfW x h l n ∧ ∀ w, Calls Try.prog 40 #[.float .f64 x] w fun r w' => r = .returned (.tuple #[.float .f64 h, .float .f64 l]) ∧ w = w' := by
  rcases hn with rfl | ⟨h1, h2⟩
  · obtain ⟨c, d, h, l, m1, m2, m3, m4, nh, nl⟩ := Flt.split_zero hx
    exact ⟨h, l, ⟨hx, Or.inl ⟨rfl, nh, nl⟩⟩, fun w => split_run w m1 m2 m3 m4⟩
  · obtain ⟨e, hd, hge, hlt, e1, e2⟩ := mild_place hx.fl h1 h2
    obtain ⟨c, d, h, l, H, L, m1, m2, m3, m4, nh, nl, hH⟩ := Flt.split_words hx hd hge hlt e1 e2
    obtain ⟨A, H', L', a1, a2, a3, hU⟩ := hH.units hd hge hlt
    exact ⟨h, l, ⟨hx, Or.inr ⟨e, A, H', L', e1, e2, a1, a2 ▸ nh, a3 ▸ nl, hU⟩⟩, fun w => split_run w m1 m2 m3 m4⟩
set_option maxHeartbeats 1000000 in
theorem prod_pure (x y : Nat) (a b : Int) (hx : Flt.Num x a) (hy : Flt.Num y b) (ha : MildN a) (hb : MildN b) :
    ∃ p e π ε, Ieee.double.mul x y = some p ∧ Flt.Num p π ∧ Flt.Num e ε ∧ a * b = (π + ε) * 2 ^ Flt.uE ∧ (∃ P, a * b = P * 2 ^ Flt.uE ∧ Flt.Near P π) ∧
      ∀ w, Calls Try.prog 34 #[.float .f64 x, .float .f64 y] w fun r w' => r = .returned (.tuple #[.float .f64 p, .float .f64 e]) ∧ w = w' := by
  obtain ⟨h, l, hX, cX⟩ := split_pure x a hx ha
  obtain ⟨g, m, hY, cY⟩ := split_pure y b hy hb
  obtain ⟨p, e, π, ε, hW, hsum, hnear⟩ := Flt.prod_words hX hY
  refine ⟨p, e, π, ε, hW.hp, hW.np, hW.ne, hsum, hnear, fun w => ?_⟩
  obtain ⟨hg, t1, hm, t2, lg, t3, lm, q1, r1, q2, r2, q3, r3, q4, r4⟩ := hW.ops
  have hp0 := hW.hp
  have o0 := fun w => run_fmul (P := Try.prog) 22 hp0 w
  have o1 := fun w => run_fmul (P := Try.prog) 22 q1 w
  have o2 := fun w => run_fsub (P := Try.prog) 22 r1 w
  have o3 := fun w => run_fmul (P := Try.prog) 22 q2 w
  have o4 := fun w => run_fadd (P := Try.prog) 22 r2 w
  have o5 := fun w => run_fmul (P := Try.prog) 22 q3 w
  have o6 := fun w => run_fadd (P := Try.prog) 22 r3 w
  have o7 := fun w => run_fmul (P := Try.prog) 22 q4 w
  have o8 := fun w => run_fadd (P := Try.prog) 22 r4 w
  clear q1 r1 q2 r2 q3 r3 q4 r4 hW hsum hnear hX hY hx hy ha hb hp0
  go_enter Try.func34, Try.ntmps34
  go_wp2_with fail
  refine (cX _).mono ?_; rintro r w1 ⟨rfl, rfl⟩
  go_wp2_with fail
  refine (cY _).mono ?_; rintro r w1 ⟨rfl, rfl⟩
  go_wp2
  go_ret2
  exact ⟨rfl, rfl⟩
theorem kept_pure (x : Nat) (n : Int) (hx : Flt.Num x n) : ∃ y, Flt.Num y (kp n) ∧ ∀ w, Calls Try.prog 35 #[.float .f64 x] w fun r w' => r = .returned (.float .f64 y) ∧ w = w' := by
  have habs := fun w => abs_any x w hx.lt
  have nA := num_abs hx
  obtain ⟨y', hy'⟩ : ∃ y', y' = x % 9223372036854775808 := ⟨_, rfl⟩
  rw [← hy'] at habs nA
  have ho := Flt.ord4 y' 2805742567851819008 (by omega) (by decide)
  have hcut := cut_400 nA (by omega)
  have hcut2 := v_400' nA
  rw [← q400_eq] at hcut hcut2
  have hyf : y' < 9218868437227405312 := by have := hx.fin; omega
  have hx := Lib.hid hx
  clear nA hy'
  rcases ho with ⟨o, ho'⟩ | ho
  · have o2 : FloatKind.f64.format.order y' 2805742567851819008 = _ := o
    have hk := Lib.hid (kp_lt (hcut2 ho'))
    refine ⟨0, hk.out ▸ num_zero_k, fun w => ?_⟩
    clear o ho' hcut hcut2 hyf
    go_enter Try.func35, Try.ntmps35
    go_wp2_with fail
    refine (habs _).mono ?_; rintro r w3 ⟨rfl, rfl⟩
    go_wp2
    go_ret
    exact ⟨rfl, rfl⟩
  · have hk := Lib.hid (kp_ge (hcut (by omega)))
    refine ⟨x, hk.out.symm ▸ hx.out, fun w => ?_⟩
    rcases ho with ⟨o, ho'⟩ | ⟨o, ho', _⟩ | ⟨o, ho'⟩
    · have o2 : FloatKind.f64.format.order y' 2805742567851819008 = _ := o
      clear o ho' hcut hcut2 hyf
      go_enter Try.func35, Try.ntmps35
      go_wp2_with fail
      refine (habs _).mono ?_; rintro r w3 ⟨rfl, rfl⟩
      go_wp2
      go_ret
      exact ⟨rfl, rfl⟩
    · have o2 : FloatKind.f64.format.order y' 2805742567851819008 = _ := o
      clear o ho' hcut hcut2 hyf
      go_enter Try.func35, Try.ntmps35
      go_wp2_with fail
      refine (habs _).mono ?_; rintro r w3 ⟨rfl, rfl⟩
      go_wp2
      go_ret
      exact ⟨rfl, rfl⟩
    · exact absurd ho' (Nat.not_lt_of_lt hyf)
end Go.Proofs.Ytfpneojhhkfhpaa

/- Mul of the landed dd. -/
namespace Go.Proofs.Ytfpneojhhkfhpaa
open Go.RowKit

def mulPre (i : Nat) : List Nat := match i with | 1 => [0] | 2 => [1] | 4 => [3] | 5 => [4] | 6 => [2, 5] | 7 => [6] | 8 => [7] | 9 => [7] | 10 => [8] | 11 => [9] | _ => []
def mulAct (a0 a1 : Value) (A : Nat) (f : Nat → Value) : Act := { tmps := #[a0, a1, .pointer (some ⟨A, 0, none⟩), .pointer (some ⟨A + 1, 0, none⟩), .pointer (some ⟨A + 1 + 1, 0, none⟩), f 5, f 6, undef, f 8, f 9, f 10, f 11, f 12, f 13, f 14, f 15, f 16, f 17, undef, undef, undef, undef, undef, undef, undef, undef, undef, undef, undef, undef, undef, undef, undef, undef], defers := [] }
def mulCs (x u x' u' p e A : Nat) : List (Nat × Nat × Value) := [(0, 9, .pointer (some ⟨A, 0, none⟩)), (1, 10, .float .f64 x), (2, 11, .float .f64 x'), (3, 12, .pointer (some ⟨A + 1, 0, none⟩)), (4, 13, .float .f64 u), (5, 14, .float .f64 u'), (6, 15, .tuple #[.float .f64 p, .float .f64 e]), (7, 8, .tuple #[.float .f64 p, .float .f64 e]), (8, 16, .float .f64 p), (9, 17, .float .f64 e), (10, 5, .float .f64 p), (11, 6, .float .f64 e)]
set_option maxHeartbeats 2000000 in
theorem mul_wide (x y u v : Nat) (H L H' L' : Int) (w : World) (hx : Flt.Num x H) (hy : Flt.Num y L) (hu : Flt.Num u H') (hv : Flt.Num v L') (hi : MulIn H L H' L') :
    Calls Try.prog 20 #[.agg #[.float .f64 x, .float .f64 y], .agg #[.float .f64 u, .float .f64 v]] w fun r w' => ∃ s e P Q1 Q2 Q3 p ε m1 m2 c f Z, r = .returned (.agg #[.float .f64 s, .float .f64 e]) ∧ MulRk H L H' L' P Q1 Q2 Q3 p ε m1 m2 c f Z ∧ Flt.Num s (Flt.rn Z) ∧ Flt.Num e (Z - Flt.rn Z) ∧ Bel w w' := by
  have sf := run_store_float Try.prog
  obtain ⟨Q1, r1, m1, h1, k1, nm1, near1, _⟩ := Flt.mul_from hx hv hi.fH hi.fL' (by decide) (by decide)
  obtain ⟨Q2, r2, m2, h2, k2, nm2, near2, _⟩ := Flt.mul_from hy hu hi.fL hi.fH' (by decide) (by decide)
  obtain ⟨Q3, _, _, h3, _, _, _, _⟩ := Flt.mul_from hy hv hi.fL hi.fL' (by decide) (by decide)
  obtain ⟨x', nx', cx⟩ := kept_pure x H hx
  obtain ⟨u', nu', cu⟩ := kept_pure u H' hu
  rw [mild_kp hi.mH] at nx'
  rw [mild_kp hi.mH'] at nu'
  obtain ⟨pw, ew, π, ε, _, np, ne, hsum, ⟨P, hP, hnear⟩, cp⟩ := prod_pure x' u' H H' nx' nu' hi.mH hi.mH'
  obtain ⟨hPs, hPu⟩ := hi.sz P hP
  have hPe : π + ε = P := uE_cancel (hsum.symm.trans hP)
  obtain ⟨c, hc⟩ : ∃ c, c = Flt.rn (m1 + m2) := ⟨_, rfl⟩
  obtain ⟨f, hf⟩ : ∃ f, f = Flt.rn (ε + c) := ⟨_, rfl⟩
  have hR : MulR H L H' L' P Q1 Q2 Q3 π ε m1 m2 c f := ⟨hi.rL, hi.rL', hP, h1, h2, h3, hnear, hPe, near1, near2, hc, hf⟩
  obtain ⟨b1, b2, b3, b4, b5, b6⟩ := hR.le
  obtain ⟨V, hV⟩ : ∃ V, V = 2 ^ 1366 := ⟨_, rfl⟩
  have hPV : P.natAbs ≤ V := hV ▸ hPu
  have w74 : ∀ {n : Nat}, n ≤ 1048576 * V → n ≤ 2 ^ 1474 := fun h => v_le (k := 1366) (m := 1474) hV h (by decide)
  have wT : ∀ {n : Nat}, 4 * n ≤ 1048576 * V → n < 2 ^ Flt.top := fun h => Nat.lt_of_le_of_lt (w74 (Nat.le_trans (Nat.le_mul_of_pos_left _ (by decide)) h)) (Flt.two_lt' (a := 1474) (b := Flt.top) (by decide))
  have bV : ∀ {n c : Nat}, n ≤ c * P.natAbs → n ≤ c * V := fun h => Nat.le_trans h (Nat.mul_le_mul_left _ hPV)
  have wc : ∀ {n c : Nat}, n ≤ c * V → c ≤ 1048576 → n ≤ 2 ^ 1474 := fun h hc => w74 (Nat.le_trans h (Nat.mul_le_mul_right _ hc))
  obtain ⟨r3, k3, nm3⟩ := Flt.add_rn nm1 nm2 (wT (up_add (bV b3) (bV b4) (by decide)))
  rw [← hc] at nm3
  obtain ⟨r4, k4, nm4⟩ := Flt.add_rn ne nm3 (wT (up_add (bV b2) (bV b5) (by decide)))
  rw [← hf] at nm4
  have S4 := fun w => sumk_any pw r4 π f w np nm4 (wc (bV b1) (by decide)) (wc (bV b6) (by decide))
  obtain ⟨Z, hZ⟩ : ∃ Z, Z = kp π + kp f := ⟨_, rfl⟩
  rw [← hZ] at S4
  have hK : MulRk H L H' L' P Q1 Q2 Q3 π ε m1 m2 c f Z := ⟨hR, hPs, hZ, np.fl, nm4.fl⟩
  have hKH := Lib.hid hK
  have o1 := fun w => run_fmul (P := Try.prog) 22 k1 w
  have o2 := fun w => run_fmul (P := Try.prog) 22 k2 w
  have o3 := fun w => run_fadd (P := Try.prog) 22 k3 w
  have o4 := fun w => run_fadd (P := Try.prog) 22 k4 w
  clear hK hZ hR hc hf b1 b2 b3 b4 b5 b6 hV hPV w74 wT bV wc hsum hnear hPe hP h1 h2 h3 near1 near2 hPs hPu hi nx' nu' np ne nm1 nm2 nm3 nm4 hx hy hu hv k1 k2 k3 k4
  go_enter Try.func20, Try.ntmps20
  go_upto_region 1 with fail
  obtain ⟨w1, hw1⟩ : ∃ w1, w1 = ((w.alloc (Obj.cells #[.float .f64 x, .float .f64 y] 25)).alloc (Obj.cells #[.float .f64 u, .float .f64 v] 25)).alloc (Obj.cells #[.float .f64 0, .float .f64 0] 25) := ⟨_, rfl⟩
  have hB1 : Bel w w1 := by rw [hw1]; exact (((Bel.refl w).alloc _).alloc _).alloc _
  have tx : Two w1 w.heap.size x y := by rw [hw1]; exact ((Two.new w x y _).al _).al _
  have tu : Two w1 (w.heap.size + 1) u v := by rw [hw1]; exact (Two.newN _ u v _ _ (by simp)).al _
  have tr : Two w1 (w.heap.size + 1 + 1) 0 0 := by rw [hw1]; exact Two.newN _ 0 0 _ _ (by simp)
  rw [← hw1]
  obtain ⟨A, hA⟩ : ∃ A, A = w.heap.size := ⟨_, rfl⟩
  rw [← hA] at tx tu tr ⊢
  have hAw : w.heap.size ≤ A + 1 + 1 := by omega
  have hw1H := Lib.hid (And.intro hw1 hA)
  clear hw1 hA
  go_cut [5, 6] from 8 to 17 (fun p q wx => p = .float .f64 pw ∧ q = .float .f64 ew ∧ wx = w1.drew)
  case first =>
    refine wp_region_cv (pre := mulPre) (mulAct (.agg #[.float .f64 x, .float .f64 y]) (.agg #[.float .f64 u, .float .f64 v]) A) (fun _ => undef) (by kernel_rfl) (by decide +kernel) (mulCs x u x' u' pw ew A) (by simp [mulCs]) (by simp [mulCs]) ?_ ?_ (by simp [mulCs])
    · intro i hi
      have g0 : w1.drew.cell? ⟨A, 0, none⟩ = _ := tx.c0
      have g2 : w1.drew.cell? ⟨A + 1, 0, none⟩ = _ := tu.c0
      have hi : i < 12 := hi
      match i, hi with
      | 0, _ => exact ⟨9, _, by simp [mulCs], fun f h => wpOp_go rfl rfl (step_field (d := some 9) rfl rfl rfl field_hi ⟨rfl, rfl⟩)⟩
      | 1, _ => exact ⟨10, .float .f64 x, by simp [mulCs], fun f h => wpOp_go rfl rfl (step_load (d := some 10) rfl rfl (h (0, 9, _) (by simp [mulCs]) (by simp [mulPre])) (load_float g0) ⟨rfl, rfl⟩)⟩
      | 2, _ => exact ⟨11, .float .f64 x', by simp [mulCs], fun f h => wpOp_go rfl rfl (step_call1 (d := some 11) rfl rfl (h (1, 10, .float .f64 x) (by simp [mulCs]) (by simp [mulPre])) (by kernel_rfl) ((cx _).mono fun _ _ ⟨k1, k2⟩ => ⟨_, k1, rfl, k2.symm⟩))⟩
      | 3, _ => exact ⟨12, _, by simp [mulCs], fun f h => wpOp_go rfl rfl (step_field (d := some 12) rfl rfl rfl field_hi ⟨rfl, rfl⟩)⟩
      | 4, _ => exact ⟨13, .float .f64 u, by simp [mulCs], fun f h => wpOp_go rfl rfl (step_load (d := some 13) rfl rfl (h (3, 12, _) (by simp [mulCs]) (by simp [mulPre])) (load_float g2) ⟨rfl, rfl⟩)⟩
      | 5, _ => exact ⟨14, .float .f64 u', by simp [mulCs], fun f h => wpOp_go rfl rfl (step_call1 (d := some 14) rfl rfl (h (4, 13, .float .f64 u) (by simp [mulCs]) (by simp [mulPre])) (by kernel_rfl) ((cu _).mono fun _ _ ⟨k1, k2⟩ => ⟨_, k1, rfl, k2.symm⟩))⟩
      | 6, _ => exact ⟨15, .tuple #[.float .f64 pw, .float .f64 ew], by simp [mulCs], fun f h => wpOp_go rfl rfl (step_call2 (d := some 15) rfl rfl (h (2, 11, .float .f64 x') (by simp [mulCs]) (by simp [mulPre])) (h (5, 14, .float .f64 u') (by simp [mulCs]) (by simp [mulPre])) (by kernel_rfl) ((cp _).mono fun _ _ ⟨k1, k2⟩ => ⟨_, k1, rfl, k2.symm⟩))⟩
      | 7, _ => exact ⟨8, .tuple #[.float .f64 pw, .float .f64 ew], by simp [mulCs], fun f h => wpOp_go rfl rfl (step_move (d := some 8) rfl (Or.inl rfl) (h (6, 15, .tuple #[.float .f64 pw, .float .f64 ew]) (by simp [mulCs]) (by simp [mulPre])) ⟨rfl, rfl⟩)⟩
      | 8, _ => exact ⟨16, .float .f64 pw, by simp [mulCs], fun f h => wpOp_go rfl rfl (step_extract (d := some 16) rfl rfl (h (7, 8, .tuple #[.float .f64 pw, .float .f64 ew]) (by simp [mulCs]) (by simp [mulPre])) rfl ⟨rfl, rfl⟩)⟩
      | 9, _ => exact ⟨17, .float .f64 ew, by simp [mulCs], fun f h => wpOp_go rfl rfl (step_extract (d := some 17) rfl rfl (h (7, 8, .tuple #[.float .f64 pw, .float .f64 ew]) (by simp [mulCs]) (by simp [mulPre])) rfl ⟨rfl, rfl⟩)⟩
      | 10, _ => exact ⟨5, .float .f64 pw, by simp [mulCs], fun f h => wpOp_go rfl rfl (step_move (d := some 5) rfl (Or.inr rfl) (h (8, 16, .float .f64 pw) (by simp [mulCs]) (by simp [mulPre])) ⟨rfl, rfl⟩)⟩
      | 11, _ => exact ⟨6, .float .f64 ew, by simp [mulCs], fun f h => wpOp_go rfl rfl (step_move (d := some 6) rfl (Or.inr rfl) (h (9, 17, .float .f64 ew) (by simp [mulCs]) (by simp [mulPre])) ⟨rfl, rfl⟩)⟩
    · intro f h
      have e5 : f 5 = .float .f64 pw := h (10, 5, _) (by simp [mulCs])
      have e6 : f 6 = .float .f64 ew := h (11, 6, _) (by simp [mulCs])
      unfold mulAct
      rw [e5, e6]
      go_wp2
      go_meet
      exact ⟨rfl, rfl, rfl⟩
  case rest =>
    obtain ⟨rfl, rfl, rfl⟩ := hcut
    have hB1d := hB1.drew
    have tx := tx.dr
    have tu := tu.dr
    have tr := tr.dr
    obtain ⟨w2, hw2⟩ : ∃ w2, w2 = w1.drew := ⟨_, rfl⟩
    rw [← hw2] at tx tu tr hB1d ⊢
    obtain ⟨R, hR⟩ : ∃ R, R = A + 1 + 1 := ⟨_, rfl⟩
    rw [← hR] at tr hAw ⊢
    have x0 := tx.c0
    have x1 := tx.c1
    have u0 := tu.c0
    have u1 := tu.c1
    clear hw2 hw1H hB1 tx tu cx cu cp hR
    go_wp2_with fail
    refine (S4 _).mono ?_; rintro r w3 ⟨p6, q6, rfl, np6, nq6, hB3⟩
    have tr3 := tr.by hB3
    obtain ⟨m1, m2⟩ := tr3.mid p6
    obtain ⟨d0, d1, _, _⟩ := tr3.set p6 q6
    obtain ⟨c0, c1, g0, g1⟩ := tr3
    have nH := Lib.hid (And.intro np6 nq6)
    have hBw := hB1d.trans hB3
    clear np6 nq6 S4 x0 x1 u0 u1
    go_wp2
    refine bodyPost_ret (by simp [results, go_sem, d0, d1]; try rfl) rfl ?_
    exact ⟨p6, q6, _, _, _, _, _, _, _, _, _, _, _, rfl, hKH.out, nH.out.1, nH.out.2, (hBw.setCell hAw _).setCell hAw _⟩
theorem mul_said : MulSaid := by
  intro x y u v H L H' L' w hx hy hu hv hT hT'
  have hi := MulIn.tame hT hT'
  refine (mul_wide x y u v H L H' L' w hx hy hu hv hi).mono ?_
  rintro r w' ⟨s, e, P, Q1, Q2, Q3, p, ε, m1, m2, c, f, Z, rfl, hK, hs, he, hB⟩
  obtain ⟨V, hV⟩ : ∃ V, V = 2 ^ 1366 := ⟨_, rfl⟩
  have hPu : P.natAbs ≤ V := hV ▸ (hi.sz P hK.R.hP).2
  have hd := hK.dvd
  refine ⟨s, e, _, _, rfl, pair_of (k := 622) hs he hd (by decide) (ge_of_dvd (e := 622) (k := 600) (rn_dvd hd) (by decide)) ?_, ?_, hB⟩
  · have h1 : 4 * Z.natAbs ≤ 1048576 * V := by have := hK.up; omega
    exact Nat.lt_of_le_of_lt (v_le (k := 1366) (m := 1474) hV h1 (by decide)) (Flt.two_lt' (a := 1474) (b := 1500) (by decide))
  · rw [show Flt.rn Z + (Z - Flt.rn Z) = Z from by omega]
    exact hK.err
end Go.Proofs.Ytfpneojhhkfhpaa

/- Arguments of any types read behind a call that turns nothing old as they did; a slice of integers that came in. Over any program. -/
namespace Go.Proofs.Ytfpneojhhkfhpaa
open Go.RowKit Go.ChangeShapes Go.WideShapes Go.ChangeAt

section
variable {H : Type} {enc : TypeId × Value → H} {P : Program}
/-- every argument reads as it did -/
theorem trodAll_keep (hl : laidOutB P = true) {W W' : World} (hb : Bel W W') {sp : Nat → Bool} :
    ∀ {ts : List TypeId} {vs : List Value} {ds : List (DataW H)} {ps : List MemPlace}, (ts.all fun t => P.readableRec t && decide (t < P.types.size)) = true → DataW.TrodAll enc P W 0 (fun _ => true) true ts vs ds ps → (∀ p ∈ ps, p.block < W.heap.size) → (∀ p ∈ ps, sp p.block = true) → DataW.TrodAll enc P W' 0 sp true ts vs ds ps
  | [], vs, ds, ps, _, h, _, _ => by
    obtain ⟨rfl, rfl, rfl⟩ := trodAll_nil h
    exact trodAll_mk0
  | t :: ts, vs, ds, ps, ht, h, hlt, hsp => by
    obtain ⟨v, vs', d, ds', p, q, rfl, rfl, rfl, h1, h2⟩ := trodAll_cons h
    simp only [List.all_cons, Bool.and_eq_true, decide_eq_true_eq] at ht
    refine trodAll_cons_mk (WideElems.Trod_stays hl ht.1.1 ht.1.2 h1 (fun x hx => ?_) (fun x hx => hsp x (List.mem_append_left _ hx))) (trodAll_keep hl hb (by simpa using ht.2) h2 (fun x hx => hlt x (List.mem_append_right _ hx)) fun x hx => hsp x (List.mem_append_right _ hx))
    exact Below.same hb (hlt x (List.mem_append_left _ hx))
end

/-- a slice of integers as a call reads it -/
inductive IRow (w : World) : Value → List Int → Prop
  | nil : IRow w (.slice none 0 0) []
  | none (a : Addr) (cap : Nat) : IRow w (.slice (some a) 0 cap) []
  | some (b off cap : Nat) (zs : List Int) (h0 : 0 < zs.length) (hc : zs.length ≤ cap) (hm : cap ≤ maxLen) (hb : b < w.heap.size) (hcell : ∀ (i : Nat) z, zs[i]? = Option.some z → w.cell? ⟨b, off + i, Option.none⟩ = Option.some (.int .i64 z)) : IRow w (.slice (Option.some ⟨b, off, Option.none⟩) zs.length cap) zs
theorem open_irow {H : Type} {enc : TypeId × Value → H} {P : Program} {w : World} {t e : TypeId} {v : Value} {d : DataW H} {ps : List MemPlace} {r : Reach} {b0 : Nat} (ht : P.underlying t = some (.slice e)) (he : P.underlying e = some (.int .i64)) (hc : P.cellsOf e = 1)
    (hval : Value.okWide P w r b0 t v) (h : DataW.Trod enc P w 0 (fun _ => true) true t v d ps) : ∃ zs, IRow w v zs ∧ ∀ z ∈ zs, (Lit.int .i64 z).wf = true := by
  obtain ⟨a0, len, cap, rfl⟩ := okWide_slice ht hval
  obtain ⟨fuel, hf⟩ := h
  rcases open_ints ht he hc hf with ⟨hcs, hx⟩ | ⟨a, len', cap', zs, hcs, _, hle, hmax, hall, hx, hcell, hwz⟩
  · simp [Value.cells] at hcs
    obtain ⟨rfl, rfl, rfl⟩ := hcs
    exact ⟨[], .nil, fun z hz => by cases hz⟩
  · simp [Value.cells] at hcs
    obtain ⟨rfl, rfl, rfl⟩ := hcs
    simp only [if_true] at hall
    by_cases h0 : len = 0
    · subst h0
      exact ⟨[], .none a cap, fun z hz => by cases hz⟩
    · obtain ⟨b, off, rfl, hcb⟩ := ints_at hcell (by omega)
      have hlen : (zs.take len).length = len := by rw [List.length_take]; omega
      refine ⟨zs.take len, ?_, fun z hz => hwz z (List.mem_of_mem_take hz)⟩
      have hb : b < w.heap.size := World.block_lt_of_cell? w _ (hcb 0 (by omega))
      have := IRow.some (w := w) b off cap (zs.take len) (by omega) (by omega) hmax hb (fun i z hz => by
        have hi := (List.getElem?_eq_some_iff.1 hz).1
        rw [hlen] at hi
        rw [hcb i (by omega)]
        rw [List.getElem?_take, if_pos hi] at hz
        simp [List.getD, hz])
      rw [hlen] at this
      exact this
end Go.Proofs.Ytfpneojhhkfhpaa

/- Arrays of two or three integers that come in by value: what they hold, and that they read the same in every world. Over any program. -/
namespace Go.Proofs.Ytfpneojhhkfhpaa
open Go.ChangeShapes Go.WideShapes Go.ChangeAt Go.RowKit

section
variable {H : Type} {enc : TypeId × Value → H} {P : Program} {w : World} {base : Nat} {spare : Nat → Bool} {held : Bool} {k : IntKind}

theorem shut_arr2 {t e : TypeId} (ht : P.underlying t = some (.array 2 e)) (he : P.underlying e = some (.int k)) (hc : P.cellsOf e = 1) (hC : P.cellsOf t = 2) {x y : Int} (wx : (Lit.int k x).wf = true) (wy : (Lit.int k y).wf = true) :
    DataW.Trod enc P w base spare held t (.agg #[.int k x, .int k y]) (.agg [.lit (.int k x), .lit (.int k y)]) [] := by
  have r2 : List.range 2 = [0, 1] := rfl
  exact ⟨2, by simp [DataW.trod, Value.cells, ht, he, hc, hC, r2, wx, wy]⟩
theorem shut_arr3 {t e : TypeId} (ht : P.underlying t = some (.array 3 e)) (he : P.underlying e = some (.int k)) (hc : P.cellsOf e = 1) (hC : P.cellsOf t = 3) {x y z : Int} (wx : (Lit.int k x).wf = true) (wy : (Lit.int k y).wf = true) (wz : (Lit.int k z).wf = true) :
    DataW.Trod enc P w base spare held t (.agg #[.int k x, .int k y, .int k z]) (.agg [.lit (.int k x), .lit (.int k y), .lit (.int k z)]) [] := by
  have r3 : List.range 3 = [0, 1, 2] := rfl
  exact ⟨2, by simp [DataW.trod, Value.cells, ht, he, hc, hC, r3, wx, wy, wz]⟩

theorem okWide_array {r : Reach} {b0 : Nat} {t e : TypeId} {n : Nat} {v : Value} (ht : P.underlying t = some (.array n e)) (h : Value.okWide P w r b0 t v) : ∃ cs, v = .agg cs ∧ cs.size = P.cellsOf t := by
  unfold Value.okWide at h
  rw [ht] at h
  obtain ⟨cs, h1, h2, _⟩ : ∃ cs, v = .agg cs ∧ cs.size = P.cellsOf t ∧ Row.okWide P w r b0 t cs := by simpa using h
  exact ⟨cs, h1, h2⟩

theorem open_arr2 {r : Reach} {b0 : Nat} {t e : TypeId} {v : Value} {d : DataW H} {p : List MemPlace} (ht : P.underlying t = some (.array 2 e)) (he : P.underlying e = some (.int k)) (hc : P.cellsOf e = 1) (hC : P.cellsOf t = 2)
    (hv : Value.okWide P w r b0 t v) (h : DataW.Trod enc P w base spare held t v d p) :
    ∃ x y : Int, v = .agg #[.int k x, .int k y] ∧ d = .agg [.lit (.int k x), .lit (.int k y)] ∧ p = [] ∧ (Lit.int k x).wf = true ∧ (Lit.int k y).wf = true := by
  obtain ⟨cs, rfl, hsz⟩ := okWide_array ht hv
  obtain ⟨c0, c1, rfl⟩ := Joins.array2 (hsz.trans hC)
  obtain ⟨fuel, hf⟩ := h
  obtain ⟨xs, m, _, hx, _, hl, hi⟩ := DataW.trod_array ht hf
  simp only [hc, Value.cells] at hi
  have i0 := hi 0 (by omega)
  have i1 := hi 1 (by omega)
  match xs, hl with
  | [y0, y1], _ =>
    simp at i0 i1
    obtain ⟨a0, e0, z0, w0⟩ := DataW.trod_int he i0
    obtain ⟨a1, e1, z1, w1⟩ := DataW.trod_int he i1
    simp at e0 e1
    subst e0 e1 z0 z1
    simp at hx
    exact ⟨a0, a1, rfl, hx.1, hx.2, w0, w1⟩
theorem open_arr3 {r : Reach} {b0 : Nat} {t e : TypeId} {v : Value} {d : DataW H} {p : List MemPlace} (ht : P.underlying t = some (.array 3 e)) (he : P.underlying e = some (.int k)) (hc : P.cellsOf e = 1) (hC : P.cellsOf t = 3)
    (hv : Value.okWide P w r b0 t v) (h : DataW.Trod enc P w base spare held t v d p) :
    ∃ x y z : Int, v = .agg #[.int k x, .int k y, .int k z] ∧ d = .agg [.lit (.int k x), .lit (.int k y), .lit (.int k z)] ∧ p = [] ∧ (Lit.int k x).wf = true ∧ (Lit.int k y).wf = true ∧ (Lit.int k z).wf = true := by
  obtain ⟨cs, rfl, hsz⟩ := okWide_array ht hv
  obtain ⟨c0, c1, c2, rfl⟩ := Joins.array3 (hsz.trans hC)
  obtain ⟨fuel, hf⟩ := h
  obtain ⟨xs, m, _, hx, _, hl, hi⟩ := DataW.trod_array ht hf
  simp only [hc, Value.cells] at hi
  have i0 := hi 0 (by omega)
  have i1 := hi 1 (by omega)
  have i2 := hi 2 (by omega)
  match xs, hl with
  | [y0, y1, y2], _ =>
    simp at i0 i1 i2
    obtain ⟨a0, e0, z0, w0⟩ := DataW.trod_int he i0
    obtain ⟨a1, e1, z1, w1⟩ := DataW.trod_int he i1
    obtain ⟨a2, e2, z2, w2⟩ := DataW.trod_int he i2
    simp at e0 e1 e2
    subst e0 e1 e2 z0 z1 z2
    simp at hx
    exact ⟨a0, a1, a2, rfl, hx.1, hx.2, w0, w1, w2⟩
end

end Go.Proofs.Ytfpneojhhkfhpaa

/- 'p, q := sum(a.Hi, b.Hi), sum(a.Lo, b.Lo)' in Add: a region of fourteen operations that draws its order, met by what holds behind each set of them. -/
namespace Go.Proofs.Ytfpneojhhkfhpaa
open Go.RowKit

/-- two floats of which something holds -/
def PairV (P : Nat → Nat → Prop) (v : Value) : Prop := ∃ s e, v = .agg #[.float .f64 s, .float .f64 e] ∧ P s e
/-- a new block of two floats; once stored, what is stored -/
def BlkV (w1 w : World) (done : Prop) (p v : Value) : Prop := ∃ X α β, p = .pointer (some ⟨X, 0, none⟩) ∧ w1.heap.size ≤ X ∧ Two w X α β ∧ (done → v = .agg #[.float .f64 α, .float .f64 β])
theorem BlkV.mk0 (w1 w : World) {done : Prop} (v : Value) (hB : Bel w1 w) (hd : ¬ done) : BlkV w1 (w.alloc (.cells #[.float .f64 0, .float .f64 0] 25)) done (.pointer (some ⟨w.heap.size, 0, none⟩)) v :=
  ⟨w.heap.size, 0, 0, rfl, hB.size, Two.new .., fun h => absurd h hd⟩
theorem BlkV.imp {w1 w : World} {d d' : Prop} {p v : Value} (h : BlkV w1 w d p v) (hd : d' → d) : BlkV w1 w d' p v := by
  obtain ⟨X, α, β, h1, h2, h3, h4⟩ := h
  exact ⟨X, α, β, h1, h2, h3, fun h => h4 (hd h)⟩
theorem BlkV.bel {w1 w w' : World} {d : Prop} {p v : Value} (h : BlkV w1 w d p v) (g : Bel w w') : BlkV w1 w' d p v := by
  obtain ⟨X, α, β, h1, h2, h3, h4⟩ := h
  exact ⟨X, α, β, h1, h2, h3.by g, h4⟩
theorem BlkV.turn {w1 w : World} {d : Prop} {p v v' : Value} (h : BlkV w1 w d p v) (hd : ¬ d) : BlkV w1 w d p v' := by
  obtain ⟨X, α, β, h1, h2, h3, h4⟩ := h
  exact ⟨X, α, β, h1, h2, h3, fun h => absurd h hd⟩
theorem BlkV.fresh {w1 w : World} {d : Prop} {p v : Value} (h : BlkV w1 w d p v) : p ≠ .pointer (some ⟨w.heap.size, 0, none⟩) := by
  obtain ⟨X, α, β, h1, h2, h3, h4⟩ := h
  have := h3.lt
  rw [h1]
  intro e
  cases e
  omega
theorem BlkV.so {w1 w : World} {d : Prop} {p v : Value} {X : Nat} (h : BlkV w1 w d p v) (hne : p ≠ .pointer (some ⟨X, 0, none⟩)) (a b : Value) : BlkV w1 ((w.setCell ⟨X, 0, none⟩ a).setCell ⟨X, 1, none⟩ b) d p v := by
  obtain ⟨Y, α, β, h1, h2, h3, h4⟩ := h
  exact ⟨Y, α, β, h1, h2, h3.so (fun e => hne (by rw [h1, e])) _ _, h4⟩
/-- what holds behind a set of the fourteen -/
structure DuoI (P1 P2 : Nat → Nat → Prop) (cs : List (Nat × Nat × Value)) (w1 : World) (D : Nat → Bool) (f : Nat → Value) (w : World) : Prop where
  bel : Bel w1 w
  cv : CV cs D f
  c1 : D 4 = true → PairV P1 (f 11)
  c2 : D 9 = true → PairV P2 (f 16)
  k1 : D 10 = true → BlkV w1 w (D 12 = true) (f 5) (f 11)
  k2 : D 11 = true → BlkV w1 w (D 13 = true) (f 6) (f 16)
  ne : D 10 = true → D 11 = true → f 5 ≠ f 6
  o1 : D 12 = true → D 4 = true ∧ D 10 = true
  o2 : D 13 = true → D 9 = true ∧ D 11 = true
theorem DuoI.const {P1 P2 : Nat → Nat → Prop} {cs : List (Nat × Nat × Value)} {w1 : World} {D : Nat → Bool} {f : Nat → Value} {w : World} (h : DuoI P1 P2 cs w1 D f w) (i t : Nat) (v : Value) (hi : ∀ c ∈ cs, (c.1 = i ∧ c.2.1 = t ∧ c.2.2 = v) ∨ (c.1 ≠ i ∧ c.2.1 ≠ t))
    (hn : 4 ≠ i ∧ 9 ≠ i ∧ 10 ≠ i ∧ 11 ≠ i ∧ 12 ≠ i ∧ 13 ≠ i) (ht : 5 ≠ t ∧ 6 ≠ t ∧ 11 ≠ t ∧ 16 ≠ t) : DuoI P1 P2 cs w1 (fun k => D k || k == i) (tset f t v) w := by
  obtain ⟨n4, n9, n10, n11, n12, n13⟩ := hn
  obtain ⟨t5, t6, t11, t16⟩ := ht
  refine ⟨h.bel, h.cv.self i t v hi, ?_, ?_, ?_, ?_, ?_, fun g => (h.o1 (dn n12 g)).imp dup dup, fun g => (h.o2 (dn n13 g)).imp dup dup⟩
  · rw [tset_ne _ _ t11]; exact fun g => h.c1 (dn n4 g)
  · rw [tset_ne _ _ t16]; exact fun g => h.c2 (dn n9 g)
  · rw [tset_ne _ _ t5, tset_ne _ _ t11]; exact fun g => (h.k1 (dn n10 g)).imp (dn n12)
  · rw [tset_ne _ _ t6, tset_ne _ _ t16]; exact fun g => (h.k2 (dn n11 g)).imp (dn n13)
  · rw [tset_ne _ _ t5, tset_ne _ _ t6]; exact fun g g' => h.ne (dn n10 g) (dn n11 g')
theorem DuoI.call1 {P1 P2 : Nat → Nat → Prop} {cs : List (Nat × Nat × Value)} {w1 : World} {D : Nat → Bool} {f : Nat → Value} {w w' : World} (h : DuoI P1 P2 cs w1 D f w) {v : Value} (hv : PairV P1 v) (g : Bel w w') (h4 : D 4 = false) (hc : ∀ c ∈ cs, c.1 ≠ 4 ∧ c.2.1 ≠ 11) : DuoI P1 P2 cs w1 (fun k => D k || k == 4) (tset f 11 v) w' := by
  have n12 : ¬ D 12 = true := fun e => by have := (h.o1 e).1; rw [h4] at this; exact absurd this (by decide)
  refine ⟨h.bel.trans g, h.cv.other 4 11 v hc, ?_, ?_, ?_, ?_, ?_, fun q => (h.o1 (dn (by decide) q)).imp dup dup, fun q => (h.o2 (dn (by decide) q)).imp dup dup⟩
  · rw [tset_self]; exact fun _ => hv
  · rw [tset_ne _ _ (by decide)]; exact fun q => h.c2 (dn (by decide) q)
  · rw [tset_ne _ _ (by decide)]; exact fun q => ((h.k1 (dn (by decide) q)).imp (dn (i := 4) (by decide))).bel g |>.turn (fun e => n12 (dn (by decide) e))
  · rw [tset_ne _ _ (by decide), tset_ne _ _ (by decide)]; exact fun q => ((h.k2 (dn (by decide) q)).imp (dn (i := 4) (by decide))).bel g
  · rw [tset_ne _ _ (by decide), tset_ne _ _ (by decide)]; exact fun q q' => h.ne (dn (by decide) q) (dn (by decide) q')
theorem DuoI.call2 {P1 P2 : Nat → Nat → Prop} {cs : List (Nat × Nat × Value)} {w1 : World} {D : Nat → Bool} {f : Nat → Value} {w w' : World} (h : DuoI P1 P2 cs w1 D f w) {v : Value} (hv : PairV P2 v) (g : Bel w w') (h4 : D 9 = false) (hc : ∀ c ∈ cs, c.1 ≠ 9 ∧ c.2.1 ≠ 16) : DuoI P1 P2 cs w1 (fun k => D k || k == 9) (tset f 16 v) w' := by
  have n13 : ¬ D 13 = true := fun e => by have := (h.o2 e).1; rw [h4] at this; exact absurd this (by decide)
  refine ⟨h.bel.trans g, h.cv.other 9 16 v hc, ?_, ?_, ?_, ?_, ?_, fun q => (h.o1 (dn (by decide) q)).imp dup dup, fun q => (h.o2 (dn (by decide) q)).imp dup dup⟩
  · rw [tset_ne _ _ (by decide)]; exact fun q => h.c1 (dn (by decide) q)
  · rw [tset_self]; exact fun _ => hv
  · rw [tset_ne _ _ (by decide), tset_ne _ _ (by decide)]; exact fun q => ((h.k1 (dn (by decide) q)).imp (dn (i := 9) (by decide))).bel g
  · rw [tset_ne _ _ (by decide)]; exact fun q => ((h.k2 (dn (by decide) q)).imp (dn (i := 9) (by decide))).bel g |>.turn (fun e => n13 (dn (by decide) e))
  · rw [tset_ne _ _ (by decide), tset_ne _ _ (by decide)]; exact fun q q' => h.ne (dn (by decide) q) (dn (by decide) q')
theorem DuoI.alloc1 {P1 P2 : Nat → Nat → Prop} {cs : List (Nat × Nat × Value)} {w1 : World} {D : Nat → Bool} {f : Nat → Value} {w : World} (h : DuoI P1 P2 cs w1 D f w) (h4 : D 10 = false) (hc : ∀ c ∈ cs, c.1 ≠ 10 ∧ c.2.1 ≠ 5) :
    DuoI P1 P2 cs w1 (fun k => D k || k == 10) (tset f 5 (.pointer (some ⟨w.heap.size, 0, none⟩))) (w.alloc (.cells #[.float .f64 0, .float .f64 0] 25)) := by
  have n12 : ¬ D 12 = true := fun e => by have := (h.o1 e).2; rw [h4] at this; exact absurd this (by decide)
  refine ⟨h.bel.alloc _, h.cv.other 10 5 _ hc, ?_, ?_, ?_, ?_, ?_, fun q => (h.o1 (dn (by decide) q)).imp dup dup, fun q => (h.o2 (dn (by decide) q)).imp dup dup⟩
  · rw [tset_ne _ _ (by decide)]; exact fun q => h.c1 (dn (by decide) q)
  · rw [tset_ne _ _ (by decide)]; exact fun q => h.c2 (dn (by decide) q)
  · rw [tset_self, tset_ne _ _ (by decide)]; exact fun _ => BlkV.mk0 _ _ _ h.bel (fun e => n12 (dn (by decide) e))
  · rw [tset_ne _ _ (by decide), tset_ne _ _ (by decide)]; exact fun q => ((h.k2 (dn (by decide) q)).imp (dn (i := 10) (by decide))).bel ((Bel.refl w).alloc _)
  · rw [tset_self, tset_ne _ _ (by decide)]; exact fun _ q => (h.k2 (dn (by decide) q)).fresh.symm
theorem DuoI.alloc2 {P1 P2 : Nat → Nat → Prop} {cs : List (Nat × Nat × Value)} {w1 : World} {D : Nat → Bool} {f : Nat → Value} {w : World} (h : DuoI P1 P2 cs w1 D f w) (h4 : D 11 = false) (hc : ∀ c ∈ cs, c.1 ≠ 11 ∧ c.2.1 ≠ 6) :
    DuoI P1 P2 cs w1 (fun k => D k || k == 11) (tset f 6 (.pointer (some ⟨w.heap.size, 0, none⟩))) (w.alloc (.cells #[.float .f64 0, .float .f64 0] 25)) := by
  have n13 : ¬ D 13 = true := fun e => by have := (h.o2 e).2; rw [h4] at this; exact absurd this (by decide)
  refine ⟨h.bel.alloc _, h.cv.other 11 6 _ hc, ?_, ?_, ?_, ?_, ?_, fun q => (h.o1 (dn (by decide) q)).imp dup dup, fun q => (h.o2 (dn (by decide) q)).imp dup dup⟩
  · rw [tset_ne _ _ (by decide)]; exact fun q => h.c1 (dn (by decide) q)
  · rw [tset_ne _ _ (by decide)]; exact fun q => h.c2 (dn (by decide) q)
  · rw [tset_ne _ _ (by decide), tset_ne _ _ (by decide)]; exact fun q => ((h.k1 (dn (by decide) q)).imp (dn (i := 11) (by decide))).bel ((Bel.refl w).alloc _)
  · rw [tset_self, tset_ne _ _ (by decide)]; exact fun _ => BlkV.mk0 _ _ _ h.bel (fun e => n13 (dn (by decide) e))
  · rw [tset_self, tset_ne _ _ (by decide)]; exact fun q _ => (h.k1 (dn (by decide) q)).fresh
theorem DuoI.store1 {P1 P2 : Nat → Nat → Prop} {cs : List (Nat × Nat × Value)} {w1 : World} {D : Nat → Bool} {f : Nat → Value} {w : World} (h : DuoI P1 P2 cs w1 D f w) {X u v α β : Nat} (h4 : D 4 = true) (h10 : D 10 = true) (hX : f 5 = .pointer (some ⟨X, 0, none⟩)) (hle : w1.heap.size ≤ X) (hT : Two w X α β) (hv : f 11 = .agg #[.float .f64 u, .float .f64 v]) (hc : ∀ c ∈ cs, c.1 ≠ 12) :
    DuoI P1 P2 cs w1 (fun k => D k || k == 12) f ((w.setCell ⟨X, 0, none⟩ (.float .f64 u)).setCell ⟨X, 1, none⟩ (.float .f64 v)) := by
  refine ⟨(h.bel.setCell hle _).setCell hle _, h.cv.none 12 hc, fun q => h.c1 (dn (by decide) q), fun q => h.c2 (dn (by decide) q), fun _ => ⟨X, u, v, hX, hle, hT.set u v, fun _ => hv⟩, fun q => ?_, fun q q' => h.ne (dn (by decide) q) (dn (by decide) q'), fun _ => ⟨dup h4, dup h10⟩, fun q => (h.o2 (dn (by decide) q)).imp dup dup⟩
  exact ((h.k2 (dn (by decide) q)).imp (dn (i := 12) (by decide))).so (fun e => h.ne h10 (dn (by decide) q) (hX.trans e.symm)) _ _
theorem DuoI.store2 {P1 P2 : Nat → Nat → Prop} {cs : List (Nat × Nat × Value)} {w1 : World} {D : Nat → Bool} {f : Nat → Value} {w : World} (h : DuoI P1 P2 cs w1 D f w) {X u v α β : Nat} (h4 : D 9 = true) (h10 : D 11 = true) (hX : f 6 = .pointer (some ⟨X, 0, none⟩)) (hle : w1.heap.size ≤ X) (hT : Two w X α β) (hv : f 16 = .agg #[.float .f64 u, .float .f64 v]) (hc : ∀ c ∈ cs, c.1 ≠ 13) :
    DuoI P1 P2 cs w1 (fun k => D k || k == 13) f ((w.setCell ⟨X, 0, none⟩ (.float .f64 u)).setCell ⟨X, 1, none⟩ (.float .f64 v)) := by
  refine ⟨(h.bel.setCell hle _).setCell hle _, h.cv.none 13 hc, fun q => h.c1 (dn (by decide) q), fun q => h.c2 (dn (by decide) q), fun q => ?_, fun _ => ⟨X, u, v, hX, hle, hT.set u v, fun _ => hv⟩, fun q q' => h.ne (dn (by decide) q) (dn (by decide) q'), fun q => (h.o1 (dn (by decide) q)).imp dup dup, fun _ => ⟨dup h4, dup h10⟩⟩
  exact ((h.k1 (dn (by decide) q)).imp (dn (i := 13) (by decide))).so (fun e => h.ne (dn (by decide) q) h10 (e.trans hX.symm)) _ _
/-- two numbers in two new blocks -/
def Duos (P1 P2 : Nat → Nat → Prop) (w1 wx : World) (p q : Value) : Prop := ∃ (X Y x y u v : Nat), p = .pointer (some ⟨X, 0, none⟩) ∧ q = .pointer (some ⟨Y, 0, none⟩) ∧ X ≠ Y ∧ w1.heap.size ≤ X ∧ w1.heap.size ≤ Y ∧ Two wx X x y ∧ Two wx Y u v ∧ Bel w1 wx ∧ P1 x y ∧ P2 u v
theorem DuoI.whole {P1 P2 : Nat → Nat → Prop} {cs : List (Nat × Nat × Value)} {w1 : World} {D : Nat → Bool} {f : Nat → Value} {w : World} (h : DuoI P1 P2 cs w1 D f w) (hD : ∀ i, i < 14 → D i = true) : Duos P1 P2 w1 w (f 5) (f 6) := by
  obtain ⟨x, y, hv, ht⟩ := h.c1 (hD _ (by decide))
  obtain ⟨u, v, hv', ht'⟩ := h.c2 (hD _ (by decide))
  obtain ⟨X, α, β, r1, r2, r3, r4⟩ := h.k1 (hD _ (by decide))
  obtain ⟨Y, α', β', s1, s2, s3, s4⟩ := h.k2 (hD _ (by decide))
  have q1 := r4 (hD _ (by decide))
  have q2 := s4 (hD _ (by decide))
  rw [hv] at q1
  rw [hv'] at q2
  cases q1
  cases q2
  exact ⟨X, Y, x, y, u, v, r1, s1, fun e => h.ne (hD _ (by decide)) (hD _ (by decide)) (by rw [r1, s1, e]), r2, s2, r3, s3, h.bel, ht, ht'⟩
def duoPre (i : Nat) : List Nat := match i with | 1 => [0] | 3 => [2] | 4 => [1, 3] | 6 => [5] | 8 => [7] | 9 => [6, 8] | 12 => [4, 10] | 13 => [9, 11] | _ => []
end Go.Proofs.Ytfpneojhhkfhpaa

/- Add of the landed dd. -/
namespace Go.Proofs.Ytfpneojhhkfhpaa
open Go.RowKit

/-- the temporaries behind Add's first statement -/
def addAct (x y u v A : Nat) (f : Nat → Value) : Act := { tmps := #[.agg #[.float .f64 x, .float .f64 y], .agg #[.float .f64 u, .float .f64 v], .pointer (some ⟨A, 0, none⟩), .pointer (some ⟨A + 1, 0, none⟩), .pointer (some ⟨A + 1 + 1, 0, none⟩), f 5, f 6, f 7, f 8, f 9, f 10, f 11, f 12, f 13, f 14, f 15, f 16, undef, undef, undef, undef, undef, undef, undef, undef, undef, undef, undef, undef, undef, undef, undef, undef], defers := [] }
def addCs (x y u v A : Nat) : List (Nat × Nat × Value) := [(0, 7, .pointer (some ⟨A, 0, none⟩)), (1, 8, .float .f64 x), (2, 9, .pointer (some ⟨A + 1, 0, none⟩)), (3, 10, .float .f64 u), (5, 12, .pointer (some ⟨A, 1, none⟩)), (6, 13, .float .f64 y), (7, 14, .pointer (some ⟨A + 1, 1, none⟩)), (8, 15, .float .f64 v)]
theorem duo_step (P1 P2 : Nat → Nat → Prop) (x y u v A : Nat) (w1 : World) (hA : A + 1 < w1.heap.size) (c0 : w1.cell? ⟨A, 0, none⟩ = some (.float .f64 x)) (c1 : w1.cell? ⟨A, 1, none⟩ = some (.float .f64 y)) (c2 : w1.cell? ⟨A + 1, 0, none⟩ = some (.float .f64 u)) (c3 : w1.cell? ⟨A + 1, 1, none⟩ = some (.float .f64 v))
    (S1 : ∀ w, Calls Try.prog 31 #[.float .f64 x, .float .f64 u] w fun r w' => ∃ s e, r = .returned (.agg #[.float .f64 s, .float .f64 e]) ∧ P1 s e ∧ Bel w w')
    (S2 : ∀ w, Calls Try.prog 31 #[.float .f64 y, .float .f64 v] w fun r w' => ∃ s e, r = .returned (.agg #[.float .f64 s, .float .f64 e]) ∧ P2 s e ∧ Bel w w')
    (Q : Exit → Act → World → Prop) (ops : Array Oper)
    (hops : ∃ y0 y1 y2 y3 y4 y5 y6 y7 y8 y9 y10 y11 y12 y13 q0 q1 q2 q3 q4 q5 q6 q7 q8 q9 q10 q11 q12 q13 f0 f1 f2 f3 f4 f5 f6 f7 f8 f9 f10 f11 f12 f13, ops = #[
      { dst := some 7, op := .fieldAddr 25 (.tmp 2) 0, type := y0, pos := q0, after := f0, guard := none },
      { dst := some 8, op := .load 22 (.tmp 7), type := y1, pos := q1, after := f1, guard := none },
      { dst := some 9, op := .fieldAddr 25 (.tmp 3) 0, type := y2, pos := q2, after := f2, guard := none },
      { dst := some 10, op := .load 22 (.tmp 9), type := y3, pos := q3, after := f3, guard := none },
      { dst := some 11, op := .call { callee := .value (.func 31), args := #[.tmp 8, .tmp 10], argTypes := #[22, 22] }, type := y4, pos := q4, after := f4, guard := none },
      { dst := some 12, op := .fieldAddr 25 (.tmp 2) 1, type := y5, pos := q5, after := f5, guard := none },
      { dst := some 13, op := .load 22 (.tmp 12), type := y6, pos := q6, after := f6, guard := none },
      { dst := some 14, op := .fieldAddr 25 (.tmp 3) 1, type := y7, pos := q7, after := f7, guard := none },
      { dst := some 15, op := .load 22 (.tmp 14), type := y8, pos := q8, after := f8, guard := none },
      { dst := some 16, op := .call { callee := .value (.func 31), args := #[.tmp 13, .tmp 15], argTypes := #[22, 22] }, type := y9, pos := q9, after := f9, guard := none },
      { dst := some 5, op := .alloc 25, type := y10, pos := q10, after := f10, guard := none },
      { dst := some 6, op := .alloc 25, type := y11, pos := q11, after := f11, guard := none },
      { dst := none, op := .store 25 (.tmp 5) (.tmp 11), type := y12, pos := q12, after := f12, guard := none },
      { dst := none, op := .store 25 (.tmp 6) (.tmp 16), type := y13, pos := q13, after := f13, guard := none }])
    (D : Nat → Bool) (f : Nat → Value) (w : World) (i : Nat) (hi : i < 14) (hD : D i = false) (hp : ∀ j ∈ duoPre i, D j = true) (hI : DuoI P1 P2 (addCs x y u v A) w1 D f w) :
    wpOp Try.prog ops Q i (fun a' w' => ∃ f', a' = addAct x y u v A f' ∧ DuoI P1 P2 (addCs x y u v A) w1 (fun k => D k || k == i) f' w') (addAct x y u v A f) w := by
  obtain ⟨y0, y1, y2, y3, y4, y5, y6, y7, y8, y9, y10, y11, y12, y13, q0, q1, q2, q3, q4, q5, q6, q7, q8, q9, q10, q11, q12, q13, f0, f1, f2, f3, f4, f5, f6, f7, f8, f9, f10, f11, f12, f13, rfl⟩ := hops
  have g0 := (hI.bel.cell (p := ⟨A, 0, none⟩) (by show A < _; omega)).trans c0
  have g1 := (hI.bel.cell (p := ⟨A, 1, none⟩) (by show A < _; omega)).trans c1
  have g2 := (hI.bel.cell (p := ⟨A + 1, 0, none⟩) (by show A + 1 < _; omega)).trans c2
  have g3 := (hI.bel.cell (p := ⟨A + 1, 1, none⟩) (by show A + 1 < _; omega)).trans c3
  match i, hi with
  | 0, _ => exact wpOp_go rfl rfl (step_field (d := some 7) rfl rfl rfl field_hi ⟨tset f 7 _, rfl, hI.const 0 7 _ (by simp [addCs]) (by decide) (by decide)⟩)
  | 1, _ => exact wpOp_go rfl rfl (step_load (d := some 8) rfl rfl (hI.cv (0, 7, _) (by simp [addCs]) (hp 0 (by decide))) (load_float g0) ⟨tset f 8 _, rfl, hI.const 1 8 _ (by simp [addCs]) (by decide) (by decide)⟩)
  | 2, _ => exact wpOp_go rfl rfl (step_field (d := some 9) rfl rfl rfl field_hi ⟨tset f 9 _, rfl, hI.const 2 9 _ (by simp [addCs]) (by decide) (by decide)⟩)
  | 3, _ => exact wpOp_go rfl rfl (step_load (d := some 10) rfl rfl (hI.cv (2, 9, _) (by simp [addCs]) (hp 2 (by decide))) (load_float g2) ⟨tset f 10 _, rfl, hI.const 3 10 _ (by simp [addCs]) (by decide) (by decide)⟩)
  | 4, _ =>
    refine wpOp_go rfl rfl (step_call2 (d := some 11) rfl rfl (hI.cv (1, 8, .float .f64 x) (by simp [addCs]) (hp 1 (by decide))) (hI.cv (3, 10, .float .f64 u) (by simp [addCs]) (hp 3 (by decide))) (by kernel_rfl) ?_)
    refine (S1 w).mono ?_
    rintro r w3 ⟨s, e, rfl, hv, g⟩
    exact ⟨_, rfl, tset f 11 _, rfl, hI.call1 ⟨s, e, rfl, hv⟩ g hD (by simp [addCs])⟩
  | 5, _ => exact wpOp_go rfl rfl (step_field (d := some 12) rfl rfl rfl field_lo ⟨tset f 12 _, rfl, hI.const 5 12 _ (by simp [addCs]) (by decide) (by decide)⟩)
  | 6, _ => exact wpOp_go rfl rfl (step_load (d := some 13) rfl rfl (hI.cv (5, 12, _) (by simp [addCs]) (hp 5 (by decide))) (load_float g1) ⟨tset f 13 _, rfl, hI.const 6 13 _ (by simp [addCs]) (by decide) (by decide)⟩)
  | 7, _ => exact wpOp_go rfl rfl (step_field (d := some 14) rfl rfl rfl field_lo ⟨tset f 14 _, rfl, hI.const 7 14 _ (by simp [addCs]) (by decide) (by decide)⟩)
  | 8, _ => exact wpOp_go rfl rfl (step_load (d := some 15) rfl rfl (hI.cv (7, 14, _) (by simp [addCs]) (hp 7 (by decide))) (load_float g3) ⟨tset f 15 _, rfl, hI.const 8 15 _ (by simp [addCs]) (by decide) (by decide)⟩)
  | 9, _ =>
    refine wpOp_go rfl rfl (step_call2 (d := some 16) rfl rfl (hI.cv (6, 13, .float .f64 y) (by simp [addCs]) (hp 6 (by decide))) (hI.cv (8, 15, .float .f64 v) (by simp [addCs]) (hp 8 (by decide))) (by kernel_rfl) ?_)
    refine (S2 w).mono ?_
    rintro r w3 ⟨s, e, rfl, hv, g⟩
    exact ⟨_, rfl, tset f 16 _, rfl, hI.call2 ⟨s, e, rfl, hv⟩ g hD (by simp [addCs])⟩
  | 10, _ => exact wpOp_go rfl rfl (step_alloc (d := some 5) rfl rfl ⟨tset f 5 _, rfl, hI.alloc1 hD (by simp [addCs])⟩)
  | 11, _ => exact wpOp_go rfl rfl (step_alloc (d := some 6) rfl rfl ⟨tset f 6 _, rfl, hI.alloc2 hD (by simp [addCs])⟩)
  | 12, _ =>
    have h4 := hp 4 (by decide)
    have h10 := hp 10 (by decide)
    obtain ⟨s, e, hv, _⟩ := hI.c1 h4
    obtain ⟨X, α, β, r1, r2, r3, _⟩ := hI.k1 h10
    exact wpOp_go rfl rfl (step_store (d := none) rfl rfl r1 hv r3 ⟨f, rfl, hI.store1 h4 h10 r1 r2 r3 hv (by simp [addCs])⟩)
  | 13, _ =>
    have h4 := hp 9 (by decide)
    have h10 := hp 11 (by decide)
    obtain ⟨s, e, hv, _⟩ := hI.c2 h4
    obtain ⟨X, α, β, r1, r2, r3, _⟩ := hI.k2 h10
    exact wpOp_go rfl rfl (step_store (d := none) rfl rfl r1 hv r3 ⟨f, rfl, hI.store2 h4 h10 r1 r2 r3 hv (by simp [addCs])⟩)
set_option maxHeartbeats 2000000 in
theorem add_wide (x y u v : Nat) (H L H' L' : Int) (w : World) (hx : Flt.Num x H) (hy : Flt.Num y L) (hu : Flt.Num u H') (hv : Flt.Num v L') (hi : AddIn H L) (hi' : AddIn H' L') :
    Calls Try.prog 17 #[.agg #[.float .f64 x, .float .f64 y], .agg #[.float .f64 u, .float .f64 v]] w fun r w' => ∃ s e s1 e1 t1 f1 v1 s2 e2 g Z, r = .returned (.agg #[.float .f64 s, .float .f64 e]) ∧ AddRk H L H' L' s1 e1 t1 f1 v1 s2 e2 g Z ∧ Flt.Num s (Flt.rn Z) ∧ Flt.Num e (Z - Flt.rn Z) ∧ Bel w w' := by
  have sf := run_store_float Try.prog
  obtain ⟨s1, e1, t1, f1, v1, s2, e2, g, Z, hR⟩ : ∃ s1 e1 t1 f1 v1 s2 e2 g Z, AddRk H L H' L' s1 e1 t1 f1 v1 s2 e2 g Z := ⟨_, _, _, _, _, _, _, _, _, rfl, rfl, rfl, rfl, rfl, rfl, rfl, rfl, rfl⟩
  have hds1 := kpH (hR.dvd hi hi').2
  have hkH := kpH hi.dH
  have hkH' := kpH hi'.dH
  obtain ⟨V, hV⟩ : ∃ V, V = 2 ^ 1240 := ⟨_, rfl⟩
  have hB := hR.bounds (V := V) (hV ▸ hi.le) (hV ▸ hi.le2) (hV ▸ hi'.le) (hV ▸ hi'.le2)
  have w74 : ∀ {n : Nat}, n ≤ 1048576 * V → n ≤ 2 ^ 1474 := fun h => v_le (k := 1240) (m := 1474) hV h (by decide)
  have wT : ∀ {n : Nat}, 4 * n ≤ 1048576 * V → n < 2 ^ Flt.top := fun h => Nat.lt_of_le_of_lt (v_le (k := 1240) (m := 1474) hV (Nat.le_trans (Nat.le_mul_of_pos_left _ (by decide)) h) (by decide)) (Flt.two_lt' (a := 1474) (b := Flt.top) (by decide))
  have wc : ∀ {n c : Nat}, n ≤ c * V → c ≤ 1048576 → n ≤ 2 ^ 1474 := fun h hc => w74 (Nat.le_trans h (Nat.mul_le_mul_right _ hc))
  have wi : ∀ {n : Nat}, n ≤ 2 ^ 1240 → n ≤ 2 ^ 1474 := fun h => Nat.le_trans h (Flt.two_le (a := 1240) (b := 1474) (by decide))
  have S1 := fun w => sumk_any x u H H' w hx hu (wi hi.le) (wi hi'.le)
  have S2 := fun w => sumk_any y v L L' w hy hv (wi hi.le2) (wi hi'.le2)
  rw [hkH, hkH', ← hR.r_s1, ← hR.r_e1] at S1
  rw [← hR.r_t1, ← hR.r_f1] at S2
  have A1 := fun {p q : Nat} (np : Flt.Num p e1) (nq : Flt.Num q t1) => Flt.add_rn np nq (wT (up_add hB.b_e1 hB.b_t1 (by decide)))
  rw [← hR.r_v] at A1
  have S3 := fun (p q : Nat) w (np : Flt.Num p s1) (nq : Flt.Num q v1) => sumk_any p q s1 v1 w np nq (wc hB.b_s1 (by decide)) (wc hB.b_v (by decide))
  rw [hds1, ← hR.r_s2, ← hR.r_e2] at S3
  have A2 := fun {p q : Nat} (np : Flt.Num p e2) (nq : Flt.Num q f1) => Flt.add_rn np nq (wT (up_add hB.b_e2 hB.b_f1 (by decide)))
  rw [← hR.r_g] at A2
  have S4 := fun (p q : Nat) w (np : Flt.Num p s2) (nq : Flt.Num q g) => sumk_any p q s2 g w np nq (wc hB.b_s2 (by decide)) (wc hB.b_g (by decide))
  rw [← hR.r_Z] at S4
  have T1 : ∀ w, Calls Try.prog 31 #[.float .f64 x, .float .f64 u] w fun r w' => ∃ s e, r = .returned (.agg #[.float .f64 s, .float .f64 e]) ∧ (Flt.Num s s1 ∧ Flt.Num e e1) ∧ Bel w w' := fun w => (S1 w).mono fun _ _ ⟨s, e, h1, h2, h3, h4⟩ => ⟨s, e, h1, ⟨h2, h3⟩, h4⟩
  have T2 : ∀ w, Calls Try.prog 31 #[.float .f64 y, .float .f64 v] w fun r w' => ∃ s e, r = .returned (.agg #[.float .f64 s, .float .f64 e]) ∧ (Flt.Num s t1 ∧ Flt.Num e f1) ∧ Bel w w' := fun w => (S2 w).mono fun _ _ ⟨s, e, h1, h2, h3, h4⟩ => ⟨s, e, h1, ⟨h2, h3⟩, h4⟩
  have hRH := Lib.hid hR
  have hTT := Lib.hid (And.intro T1 T2)
  clear hR hB hi hi' w74 wT wc wi hV hds1 hkH hkH' S1 S2 T1 T2 hx hy hu hv
  go_enter Try.func17, Try.ntmps17
  go_upto_region 1 with fail
  obtain ⟨w1, hw1⟩ : ∃ w1, w1 = ((w.alloc (Obj.cells #[.float .f64 x, .float .f64 y] 25)).alloc (Obj.cells #[.float .f64 u, .float .f64 v] 25)).alloc (Obj.cells #[.float .f64 0, .float .f64 0] 25) := ⟨_, rfl⟩
  have hB1 : Bel w w1 := by rw [hw1]; exact (((Bel.refl w).alloc _).alloc _).alloc _
  have tx : Two w1 w.heap.size x y := by rw [hw1]; exact ((Two.new w x y _).al _).al _
  have tu : Two w1 (w.heap.size + 1) u v := by rw [hw1]; exact (Two.newN _ u v _ _ (by simp)).al _
  have tr : Two w1 (w.heap.size + 1 + 1) 0 0 := by rw [hw1]; exact Two.newN _ 0 0 _ _ (by simp)
  have hsz : w1.heap.size = w.heap.size + 3 := by rw [hw1]; simp
  rw [← hw1]
  obtain ⟨A, hA⟩ : ∃ A, A = w.heap.size := ⟨_, rfl⟩
  rw [← hA] at tx tu tr hsz ⊢
  have hw1H := Lib.hid (And.intro hw1 hA)
  have hAw : w.heap.size ≤ A := by omega
  have hAs : A + 1 < w1.heap.size := by omega
  have hAs2 : A + 1 + 1 < w1.heap.size := by omega
  clear hw1 hA
  go_cut [5, 6] from 7 to 16 (fun p q wx => Duos (fun s e => Flt.Num s s1 ∧ Flt.Num e e1) (fun s e => Flt.Num s t1 ∧ Flt.Num e f1) w1 wx p q)
  case first =>
    refine wp_region_set (pre := duoPre) (by kernel_rfl) (by decide +kernel) (fun D a w => ∃ f, a = addAct x y u v A f ∧ DuoI (fun s e => Flt.Num s s1 ∧ Flt.Num e e1) (fun s e => Flt.Num s t1 ∧ Flt.Num e f1) (addCs x y u v A) w1 D f w) ?_ ?_ ?_
    · exact ⟨fun _ => undef, rfl, ⟨(Bel.refl w1).drew, fun _ _ h => absurd h (by decide), fun h => absurd h (by decide), fun h => absurd h (by decide), fun h => absurd h (by decide), fun h => absurd h (by decide), fun h => absurd h (by decide), fun h => absurd h (by decide), fun h => absurd h (by decide)⟩⟩
    · rintro D a wx i hi hD hp ⟨f, rfl, hI⟩
      exact duo_step _ _ x y u v A w1 hAs tx.c0 tx.c1 tu.c0 tu.c1 hTT.out.1 hTT.out.2 _ _ ⟨_, _, _, _, _, _, _, _, _, _, _, _, _, _, _, _, _, _, _, _, _, _, _, _, _, _, _, _, _, _, _, _, _, _, _, _, _, _, _, _, _, _, rfl⟩ D f wx i hi hD hp hI
    · rintro D a wx hD ⟨f, rfl, hI⟩
      have hW := hI.whole hD
      unfold addAct
      go_wp2
      go_meet
      exact hW
  case rest =>
    obtain ⟨X, Y, p1, q1, p2, q2, rfl, rfl, hne, hX, hY, tX, tY, hBc, ⟨np1, nq1⟩, ⟨np2, nq2⟩⟩ := hcut
    have lX := tX.lt
    have lY := tY.lt
    have tr := tr.by hBc
    obtain ⟨p3, m3, np3⟩ := A1 nq1 np2
    have o3 := fun w => run_fadd (P := Try.prog) 22 m3 w
    have S3 := fun w => S3 p1 p3 w np1 np3
    obtain ⟨R, hR⟩ : ∃ R, R = A + 1 + 1 := ⟨_, rfl⟩
    rw [← hR] at tr ⊢
    have hRw : w.heap.size ≤ R := by omega
    have hXR : R ≠ X := by omega
    have hYR : R ≠ Y := by omega
    have hXw : w.heap.size ≤ X := by omega
    have hYw : w.heap.size ≤ Y := by omega
    have hBc := hB1.trans hBc
    clear hX hY hAs hAs2 hAw hsz hw1H hB1 tx tu A1 np1 nq1 np2 np3 m3 hR hTT
    have x0 := tX.c0
    have x1 := tX.c1
    have fx0 := tX.z0
    have fx1 := tX.z1
    have y0 := tY.c0
    have y1 := tY.c1
    go_wp2_with fail
    refine (S3 _).mono ?_; rintro r w2 ⟨p4, q4, rfl, np4, nq4, hB2⟩
    have tX2 := (tX.by hB2).set p4 q4
    obtain ⟨mX1, mX2⟩ := (tX.by hB2).mid p4
    have tX' := tX.by hB2
    have z0 := tX'.c0
    have zf0 := tX'.z0
    obtain ⟨p5, m5, np5⟩ := A2 nq4 nq2
    have o5 := fun w => run_fadd (P := Try.prog) 22 m5 w
    have tY2 := (tY.by hB2).so (fun e => hne e.symm) (.float .f64 p4) (.float .f64 q4)
    have tr2 := (tr.by hB2).so hXR (.float .f64 p4) (.float .f64 q4)
    have hBc2 := ((hBc.trans hB2).setCell (p := ⟨X, 0, none⟩) hXw (.float .f64 p4)).setCell (p := ⟨X, 1, none⟩) hXw (.float .f64 q4)
    have S4 := fun w => S4 p4 p5 w np4 np5
    have u0 := tX2.c0
    have u1 := tX2.c1
    have v0 := tY2.c0
    have v1' := tY2.c1
    clear x0 x1 fx0 fx1 y0 y1 S3 A2 np4 nq4 np5 m5
    go_wp2_with fail
    refine (S4 _).mono ?_; rintro r w3 ⟨p6, q6, rfl, np6, nq6, hB3⟩
    have tr3 := tr2.by hB3
    obtain ⟨m1, m2⟩ := tr3.mid p6
    obtain ⟨d0, d1, _, _⟩ := tr3.set p6 q6
    obtain ⟨c0, c1, g0, g1⟩ := tr3
    have nH := Lib.hid (And.intro np6 nq6)
    have hBw := hBc2.trans hB3
    clear np6 nq6 S4 u0 u1 v0 v1'
    go_wp2
    refine bodyPost_ret (by simp [results, go_sem, d0, d1]; try rfl) rfl ?_
    exact ⟨p6, q6, _, _, _, _, _, _, _, _, _, rfl, hRH.out, nH.out.1, nH.out.2, (hBw.setCell hRw _).setCell hRw _⟩
theorem add_said : AddSaid := by
  intro x y u v H L H' L' w hx hy hu hv hT hT'
  have hi := AddIn.tame hx hy hT
  have hi' := AddIn.tame hu hv hT'
  refine (add_wide x y u v H L H' L' w hx hy hu hv hi hi').mono ?_
  rintro r w' ⟨s, e, s1, e1, t1, f1, v1, s2, e2, g, Z, rfl, hR, hs, he, hB⟩
  obtain ⟨V, hV⟩ : ∃ V, V = 2 ^ 1240 := ⟨_, rfl⟩
  have hBd := hR.bounds (V := V) (hV ▸ hi.le) (hV ▸ hi.le2) (hV ▸ hi'.le) (hV ▸ hi'.le2)
  have hd := (hR.dvd hi hi').1
  refine ⟨s, e, _, _, rfl, pair_of (k := 622) hs he hd (by decide) (ge_of_dvd (e := 622) (k := 600) (rn_dvd hd) (by decide)) ?_, ?_, hB⟩
  · have h1 : 4 * Z.natAbs ≤ 1048576 * V := by have := hBd.b_Z; omega
    exact Nat.lt_of_le_of_lt (v_le (k := 1240) (m := 1474) hV h1 (by decide)) (Flt.two_lt' (a := 1474) (b := 1500) (by decide))
  · rw [show Flt.rn Z + (Z - Flt.rn Z) = Z from by omega]
    exact hR.said hi hi' hT hT'
end Go.Proofs.Ytfpneojhhkfhpaa

/- 'x, y := tame(a), tame(b)': a region that draws its order, met by what holds behind each set of its operations. -/
namespace Go.Proofs.Ytfpneojhhkfhpaa
open Go.RowKit

/-- two words that are a tame number -/
def TameP (x y : Nat) : Prop := ∃ H L, Flt.Num x H ∧ Flt.Num y L ∧ Flt.TameN H L ∧ (H = 0 → x = 0)
theorem tame_p (hnew : NewSaid) (b0 b1 : Int) (w : World) :
    Calls Try.prog 16 #[.agg #[.int .i64 b0, .int .i64 b1]] w fun r w' => ∃ x y, r = .returned (.agg #[.float .f64 x, .float .f64 y]) ∧ TameP x y ∧ Bel w w' :=
  (tame_any hnew b0 b1 w).mono fun _ _ ⟨x, y, H, L, h1, h2, h3, h4, h5, h6⟩ => ⟨x, y, h1, ⟨H, L, h2, h3, h4, h5⟩, h6⟩
/-- two tame numbers in two blocks -/
def Tames (w wx : World) (p q : Value) : Prop := ∃ (X Y x y u v : Nat), p = .pointer (some ⟨X, 0, none⟩) ∧ q = .pointer (some ⟨Y, 0, none⟩) ∧ X ≠ Y ∧ w.heap.size ≤ X ∧ w.heap.size ≤ Y ∧ Two wx X x y ∧ Two wx Y u v ∧ Bel w wx ∧ TameP x y ∧ TameP u v
/-- what holds behind a set of the eight -/
structure PairI (act : Value → Value → Value → Value → Value → Value → Act) (w1 : World) (a0 a1 b0 b1 : Int) (m : Nat) (a : Act) (w : World) (u5 u6 u9 u10 u11 u12 : Value) : Prop where
  act : a = act u5 u6 u9 u10 u11 u12
  bel : Bel w1 w
  k9 : m.testBit 0 = true → u9 = .agg #[.int .i64 a0, .int .i64 a1]
  k10 : m.testBit 1 = true → ∃ x y, u10 = .agg #[.float .f64 x, .float .f64 y] ∧ TameP x y
  k11 : m.testBit 2 = true → u11 = .agg #[.int .i64 b0, .int .i64 b1]
  k12 : m.testBit 3 = true → ∃ x y, u12 = .agg #[.float .f64 x, .float .f64 y] ∧ TameP x y
  k5 : m.testBit 4 = true → ∃ X α β, u5 = .pointer (some ⟨X, 0, none⟩) ∧ w1.heap.size ≤ X ∧ Two w X α β ∧ (m.testBit 6 = true → u10 = .agg #[.float .f64 α, .float .f64 β])
  k6 : m.testBit 5 = true → ∃ X α β, u6 = .pointer (some ⟨X, 0, none⟩) ∧ w1.heap.size ≤ X ∧ Two w X α β ∧ (m.testBit 7 = true → u12 = .agg #[.float .f64 α, .float .f64 β])
  ne : m.testBit 4 = true → m.testBit 5 = true → u5 ≠ u6
  o6 : m.testBit 6 = true → m.testBit 1 = true ∧ m.testBit 4 = true
  o7 : m.testBit 7 = true → m.testBit 3 = true ∧ m.testBit 5 = true
def pairPre (i : Nat) : Nat := match i with | 1 => 1 | 3 => 4 | 6 => 18 | 7 => 40 | _ => 0
theorem bit_or (m i k : Nat) : (m ||| 2 ^ i).testBit k = (m.testBit k || decide (i = k)) := by
  rw [Nat.testBit_or, Nat.testBit_two_pow]
theorem pre_bit {m p k : Nat} (h : (m &&& p) = p) (hk : p.testBit k = true) : m.testBit k = true := by
  have := congrArg (fun z => z.testBit k) h
  simp only [Nat.testBit_and, hk, Bool.and_true] at this
  exact this
theorem load_arr {w : World} {A : Nat} {a0 a1 : Int} (c0 : w.cell? ⟨A, 0, none⟩ = some (.int .i64 a0)) (c1 : w.cell? ⟨A, 1, none⟩ = some (.int .i64 a1)) :
    (Instr.loadAt 38 (.pointer (some ⟨A, 0, none⟩))).run Try.prog w = .ok (.agg #[.int .i64 a0, .int .i64 a1]) w := by
  simp [go_sem, c0, c1]
set_option maxHeartbeats 2000000 in
theorem pair_region (hnew : NewSaid) (act : Value → Value → Value → Value → Value → Value → Act) (t2 t3 t5 t6 t9 t10 t11 t12 id : Nat) (w w1 : World) (A : Nat) (a0 a1 b0 b1 : Int) (Q : Exit → Act → World → Prop) (ops : Array Oper)
    (hops : ∃ y0 y1 y2 y3 y4 y5 y6 y7 q0 q1 q2 q3 q4 q5 q6 q7 f0 f1 f2 f3 f4 f5 f6 f7, ops = #[
      { dst := some t9, op := .load 38 (.tmp t2), type := y0, pos := q0, after := f0, guard := none },
      { dst := some t10, op := .call { callee := .value (.func 16), args := #[.tmp t9], argTypes := #[38] }, type := y1, pos := q1, after := f1, guard := none },
      { dst := some t11, op := .load 38 (.tmp t3), type := y2, pos := q2, after := f2, guard := none },
      { dst := some t12, op := .call { callee := .value (.func 16), args := #[.tmp t11], argTypes := #[38] }, type := y3, pos := q3, after := f3, guard := none },
      { dst := some t5, op := .alloc 25, type := y4, pos := q4, after := f4, guard := none },
      { dst := some t6, op := .alloc 25, type := y5, pos := q5, after := f5, guard := none },
      { dst := none, op := .store 25 (.tmp t5) (.tmp t10), type := y6, pos := q6, after := f6, guard := none },
      { dst := none, op := .store 25 (.tmp t6) (.tmp t12), type := y7, pos := q7, after := f7, guard := none }])
    (hchk : chk8 pairPre .any ops = true)
    (p5 : ∀ u5 u6 u9 u10 u11 u12 v, (act u5 u6 u9 u10 u11 u12).put (some t5) v = act v u6 u9 u10 u11 u12)
    (p6 : ∀ u5 u6 u9 u10 u11 u12 v, (act u5 u6 u9 u10 u11 u12).put (some t6) v = act u5 v u9 u10 u11 u12)
    (p9 : ∀ u5 u6 u9 u10 u11 u12 v, (act u5 u6 u9 u10 u11 u12).put (some t9) v = act u5 u6 v u10 u11 u12)
    (p10 : ∀ u5 u6 u9 u10 u11 u12 v, (act u5 u6 u9 u10 u11 u12).put (some t10) v = act u5 u6 u9 v u11 u12)
    (p11 : ∀ u5 u6 u9 u10 u11 u12 v, (act u5 u6 u9 u10 u11 u12).put (some t11) v = act u5 u6 u9 u10 v u12)
    (p12 : ∀ u5 u6 u9 u10 u11 u12 v, (act u5 u6 u9 u10 u11 u12).put (some t12) v = act u5 u6 u9 u10 u11 v)
    (e2 : ∀ u5 u6 u9 u10 u11 u12, (act u5 u6 u9 u10 u11 u12).eval (.tmp t2) = .pointer (some ⟨A, 0, none⟩))
    (e3 : ∀ u5 u6 u9 u10 u11 u12, (act u5 u6 u9 u10 u11 u12).eval (.tmp t3) = .pointer (some ⟨A + 1, 0, none⟩))
    (e5 : ∀ u5 u6 u9 u10 u11 u12, (act u5 u6 u9 u10 u11 u12).eval (.tmp t5) = u5)
    (e6 : ∀ u5 u6 u9 u10 u11 u12, (act u5 u6 u9 u10 u11 u12).eval (.tmp t6) = u6)
    (e9 : ∀ u5 u6 u9 u10 u11 u12, (act u5 u6 u9 u10 u11 u12).eval (.tmp t9) = u9)
    (e10 : ∀ u5 u6 u9 u10 u11 u12, (act u5 u6 u9 u10 u11 u12).eval (.tmp t10) = u10)
    (e11 : ∀ u5 u6 u9 u10 u11 u12, (act u5 u6 u9 u10 u11 u12).eval (.tmp t11) = u11)
    (e12 : ∀ u5 u6 u9 u10 u11 u12, (act u5 u6 u9 u10 u11 u12).eval (.tmp t12) = u12)
    (hww : Bel w w1) (hA : A + 1 < w1.heap.size)
    (c0 : w1.cell? ⟨A, 0, none⟩ = some (.int .i64 a0)) (c1 : w1.cell? ⟨A, 1, none⟩ = some (.int .i64 a1)) (c2 : w1.cell? ⟨A + 1, 0, none⟩ = some (.int .i64 b0)) (c3 : w1.cell? ⟨A + 1, 1, none⟩ = some (.int .i64 b1))
    (v5 v6 v9 v10 v11 v12 : Value)
    (hQ : ∀ u5 u6 u9 u10 u11 u12 wx, Tames w wx u5 u6 → Q .normal (act u5 u6 u9 u10 u11 u12) wx) :
    (Code.region id ops true).wp Try.prog Q (act v5 v6 v9 v10 v11 v12) w1 := by
  obtain ⟨y0, y1, y2, y3, y4, y5, y6, y7, q0, q1, q2, q3, q4, q5, q6, q7, f0, f1, f2, f3, f4, f5, f6, f7, rfl⟩ := hops
  refine wp_region8 (by kernel_rfl) rfl hchk (fun m a w => ∃ u5 u6 u9 u10 u11 u12, PairI act w1 a0 a1 b0 b1 m a w u5 u6 u9 u10 u11 u12) ?_ ?_ ?_
  · refine ⟨v5, v6, v9, v10, v11, v12, rfl, (Bel.refl w1).drew, ?_, ?_, ?_, ?_, ?_, ?_, ?_, ?_, ?_⟩ <;> (intro h; simp at h)
  · intro m a wx i hm hi hb hp ⟨u5, u6, u9, u10, u11, u12, hI⟩
    obtain ⟨rfl, hB, k9, k10, k11, k12, k5, k6, kne, o6, o7⟩ := hI
    have nb : ∀ k, i ≠ k → (m ||| 2 ^ i).testBit k = true → m.testBit k = true := fun k hk h => by
      rw [bit_or, Bool.or_eq_true, decide_eq_true_eq] at h
      exact h.resolve_right hk
    have up : ∀ k, m.testBit k = true → (m ||| 2 ^ i).testBit k = true := fun k h => by rw [bit_or, h]; rfl
    have self : (m ||| 2 ^ i).testBit i = true := by rw [bit_or]; simp
    match i, hi with
    | 0, _ =>
      refine wpOp_go rfl rfl (step_load (d := some t9) rfl rfl (e2 ..) (load_arr ((hB.cell (p := ⟨A, 0, none⟩) (by show A < _; omega)).trans c0) ((hB.cell (p := ⟨A, 1, none⟩) (by show A < _; omega)).trans c1)) ?_)
      rw [p9]
      exact ⟨u5, u6, _, u10, u11, u12, rfl, hB, fun _ => rfl, fun h => k10 (nb 1 (by decide) h), fun h => k11 (nb 2 (by decide) h), fun h => k12 (nb 3 (by decide) h), fun h => (k5 (nb 4 (by decide) h)).imp fun X ⟨α, β, r1, r2, r3, r4⟩ => ⟨α, β, r1, r2, r3, fun h => r4 (nb 6 (by decide) h)⟩,
        fun h => (k6 (nb 5 (by decide) h)).imp fun X ⟨α, β, r1, r2, r3, r4⟩ => ⟨α, β, r1, r2, r3, fun h => r4 (nb 7 (by decide) h)⟩, fun h h' => kne (nb 4 (by decide) h) (nb 5 (by decide) h'), fun h => (o6 (nb 6 (by decide) h)).imp (up _) (up _), fun h => (o7 (nb 7 (by decide) h)).imp (up _) (up _)⟩
    | 1, _ =>
      have hv := k9 (pre_bit hp (by decide))
      refine wpOp_go rfl rfl (step_call (d := some t10) rfl rfl ((e9 ..).trans hv) (by kernel_rfl) ?_)
      refine (tame_p hnew a0 a1 wx).mono ?_
      rintro r w3 ⟨x, y, rfl, ht, g⟩
      refine ⟨_, rfl, ?_⟩
      rw [p10]
      exact ⟨u5, u6, u9, _, u11, u12, rfl, hB.trans g, fun h => hv, fun _ => ⟨x, y, rfl, ht⟩, fun h => k11 (nb 2 (by decide) h), fun h => k12 (nb 3 (by decide) h), fun h => (k5 (nb 4 (by decide) h)).imp fun X ⟨α, β, r1, r2, r3, r4⟩ => ⟨α, β, r1, r2, r3.by g, fun h => absurd (o6 (nb 6 (by decide) h)).1 (by rw [hb]; decide)⟩,
        fun h => (k6 (nb 5 (by decide) h)).imp fun X ⟨α, β, r1, r2, r3, r4⟩ => ⟨α, β, r1, r2, r3.by g, fun h => r4 (nb 7 (by decide) h)⟩, fun h h' => kne (nb 4 (by decide) h) (nb 5 (by decide) h'), fun h => (o6 (nb 6 (by decide) h)).imp (up _) (up _), fun h => (o7 (nb 7 (by decide) h)).imp (up _) (up _)⟩
    | 2, _ =>
      refine wpOp_go rfl rfl (step_load (d := some t11) rfl rfl (e3 ..) (load_arr ((hB.cell (p := ⟨A + 1, 0, none⟩) (by show A + 1 < _; omega)).trans c2) ((hB.cell (p := ⟨A + 1, 1, none⟩) (by show A + 1 < _; omega)).trans c3)) ?_)
      rw [p11]
      exact ⟨u5, u6, u9, u10, _, u12, rfl, hB, fun h => k9 (nb 0 (by decide) h), fun h => k10 (nb 1 (by decide) h), fun _ => rfl, fun h => k12 (nb 3 (by decide) h), fun h => (k5 (nb 4 (by decide) h)).imp fun X ⟨α, β, r1, r2, r3, r4⟩ => ⟨α, β, r1, r2, r3, fun h => r4 (nb 6 (by decide) h)⟩,
        fun h => (k6 (nb 5 (by decide) h)).imp fun X ⟨α, β, r1, r2, r3, r4⟩ => ⟨α, β, r1, r2, r3, fun h => r4 (nb 7 (by decide) h)⟩, fun h h' => kne (nb 4 (by decide) h) (nb 5 (by decide) h'), fun h => (o6 (nb 6 (by decide) h)).imp (up _) (up _), fun h => (o7 (nb 7 (by decide) h)).imp (up _) (up _)⟩
    | 3, _ =>
      have hv := k11 (pre_bit hp (by decide))
      refine wpOp_go rfl rfl (step_call (d := some t12) rfl rfl ((e11 ..).trans hv) (by kernel_rfl) ?_)
      refine (tame_p hnew b0 b1 wx).mono ?_
      rintro r w3 ⟨x, y, rfl, ht, g⟩
      refine ⟨_, rfl, ?_⟩
      rw [p12]
      exact ⟨u5, u6, u9, u10, u11, _, rfl, hB.trans g, fun h => k9 (nb 0 (by decide) h), fun h => k10 (nb 1 (by decide) h), fun h => hv, fun _ => ⟨x, y, rfl, ht⟩, fun h => (k5 (nb 4 (by decide) h)).imp fun X ⟨α, β, r1, r2, r3, r4⟩ => ⟨α, β, r1, r2, r3.by g, fun h => r4 (nb 6 (by decide) h)⟩,
        fun h => (k6 (nb 5 (by decide) h)).imp fun X ⟨α, β, r1, r2, r3, r4⟩ => ⟨α, β, r1, r2, r3.by g, fun h => absurd (o7 (nb 7 (by decide) h)).1 (by rw [hb]; decide)⟩, fun h h' => kne (nb 4 (by decide) h) (nb 5 (by decide) h'), fun h => (o6 (nb 6 (by decide) h)).imp (up _) (up _), fun h => (o7 (nb 7 (by decide) h)).imp (up _) (up _)⟩
    | 4, _ =>
      refine wpOp_go rfl rfl (step_alloc (d := some t5) rfl rfl ?_)
      rw [p5]
      exact ⟨_, u6, u9, u10, u11, u12, rfl, hB.alloc _, fun h => k9 (nb 0 (by decide) h), fun h => k10 (nb 1 (by decide) h), fun h => k11 (nb 2 (by decide) h), fun h => k12 (nb 3 (by decide) h), fun h => ⟨_, 0, 0, rfl, hB.size, Two.new .., fun h => absurd (o6 (nb 6 (by decide) h)).2 (by rw [hb]; decide)⟩,
        fun h => (k6 (nb 5 (by decide) h)).imp fun X ⟨α, β, r1, r2, r3, r4⟩ => ⟨α, β, r1, r2, r3.al _, fun h => r4 (nb 7 (by decide) h)⟩, fun h h' e => by
          obtain ⟨X, α, β, r1, r2, r3, r4⟩ := k6 (nb 5 (by decide) h')
          have l := r3.lt
          rw [r1] at e
          cases e
          omega, fun h => (o6 (nb 6 (by decide) h)).imp (up _) (up _), fun h => (o7 (nb 7 (by decide) h)).imp (up _) (up _)⟩
    | 5, _ =>
      refine wpOp_go rfl rfl (step_alloc (d := some t6) rfl rfl ?_)
      rw [p6]
      exact ⟨u5, _, u9, u10, u11, u12, rfl, hB.alloc _, fun h => k9 (nb 0 (by decide) h), fun h => k10 (nb 1 (by decide) h), fun h => k11 (nb 2 (by decide) h), fun h => k12 (nb 3 (by decide) h),
        fun h => (k5 (nb 4 (by decide) h)).imp fun X ⟨α, β, r1, r2, r3, r4⟩ => ⟨α, β, r1, r2, r3.al _, fun h => r4 (nb 6 (by decide) h)⟩, fun h => ⟨_, 0, 0, rfl, hB.size, Two.new .., fun h => absurd (o7 (nb 7 (by decide) h)).2 (by rw [hb]; decide)⟩, fun h h' e => by
          obtain ⟨X, α, β, r1, r2, r3, r4⟩ := k5 (nb 4 (by decide) h)
          have l := r3.lt
          rw [r1] at e
          cases e
          omega, fun h => (o6 (nb 6 (by decide) h)).imp (up _) (up _), fun h => (o7 (nb 7 (by decide) h)).imp (up _) (up _)⟩
    | 6, _ =>
      obtain ⟨x, y, hv, ht⟩ := k10 (pre_bit hp (by decide))
      have b4 : m.testBit 4 = true := pre_bit hp (by decide)
      obtain ⟨X, α, β, r1, r2, r3, r4⟩ := k5 b4
      refine wpOp_go rfl rfl (step_store (d := none) rfl rfl ((e5 ..).trans r1) ((e10 ..).trans hv) r3 ?_)
      exact ⟨u5, u6, u9, u10, u11, u12, rfl, (hB.setCell r2 _).setCell r2 _, fun h => k9 (nb 0 (by decide) h), fun h => k10 (nb 1 (by decide) h), fun h => k11 (nb 2 (by decide) h), fun h => k12 (nb 3 (by decide) h),
        fun h => ⟨X, x, y, r1, r2, r3.set x y, fun _ => hv⟩, fun h => by
          obtain ⟨Z, α', β', s1, s2, s3, s4⟩ := k6 (nb 5 (by decide) h)
          have hZ : Z ≠ X := fun e => kne b4 (nb 5 (by decide) h) (by rw [r1, s1, e])
          exact ⟨Z, α', β', s1, s2, s3.so hZ _ _, fun h => s4 (nb 7 (by decide) h)⟩, fun h h' => kne (nb 4 (by decide) h) (nb 5 (by decide) h'), fun h => ⟨up _ (pre_bit hp (by decide)), up _ b4⟩, fun h => (o7 (nb 7 (by decide) h)).imp (up _) (up _)⟩
    | 7, _ =>
      obtain ⟨x, y, hv, ht⟩ := k12 (pre_bit hp (by decide))
      have b5 : m.testBit 5 = true := pre_bit hp (by decide)
      obtain ⟨X, α, β, r1, r2, r3, r4⟩ := k6 b5
      refine wpOp_go rfl rfl (step_store (d := none) rfl rfl ((e6 ..).trans r1) ((e12 ..).trans hv) r3 ?_)
      exact ⟨u5, u6, u9, u10, u11, u12, rfl, (hB.setCell r2 _).setCell r2 _, fun h => k9 (nb 0 (by decide) h), fun h => k10 (nb 1 (by decide) h), fun h => k11 (nb 2 (by decide) h), fun h => k12 (nb 3 (by decide) h),
        fun h => by
          obtain ⟨Z, α', β', s1, s2, s3, s4⟩ := k5 (nb 4 (by decide) h)
          have hZ : Z ≠ X := fun e => kne (nb 4 (by decide) h) b5 (by rw [r1, s1, e])
          exact ⟨Z, α', β', s1, s2, s3.so hZ _ _, fun h => s4 (nb 6 (by decide) h)⟩, fun h => ⟨X, x, y, r1, r2, r3.set x y, fun _ => hv⟩, fun h h' => kne (nb 4 (by decide) h) (nb 5 (by decide) h'), fun h => (o6 (nb 6 (by decide) h)).imp (up _) (up _), fun h => ⟨up _ (pre_bit hp (by decide)), up _ b5⟩⟩
  · rintro a wx ⟨u5, u6, u9, u10, u11, u12, rfl, hB, k9, k10, k11, k12, k5, k6, kne, o6, o7⟩
    obtain ⟨x, y, hv, ht⟩ := k10 (by decide)
    obtain ⟨u, v, hv', ht'⟩ := k12 (by decide)
    obtain ⟨X, α, β, r1, r2, r3, r4⟩ := k5 (by decide)
    obtain ⟨Y, α', β', s1, s2, s3, s4⟩ := k6 (by decide)
    have q1 := r4 (by decide)
    have q2 := s4 (by decide)
    rw [hv] at q1
    rw [hv'] at q2
    cases q1
    cases q2
    refine hQ _ _ _ _ _ _ _ ⟨X, Y, x, y, u, v, r1, s1, fun e => kne (by decide) (by decide) (by rw [r1, s1, e]), Nat.le_trans hww.size r2, Nat.le_trans hww.size s2, r3, s3, hww.trans hB, ht, ht'⟩
end Go.Proofs.Ytfpneojhhkfhpaa
