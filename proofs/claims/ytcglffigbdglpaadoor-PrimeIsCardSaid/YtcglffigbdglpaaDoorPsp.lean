/- What a number that passes the test by twelve bases and is no prime would have to be. No program is named here. -/
import Derived.Test.YtcglffigbdglpaaDoorRoots
namespace Go.Proofs.YtcglffigbdglpaaDoor
open Dia

structure Psp (n : Nat) : Prop where
  odd : n % 2 = 1
  n3 : 3 ≤ n
  le : n ≤ NN
  nd : ∀ b ∈ bN, n % b ≠ 0
  strong : ∀ b ∈ bN, Strong (n : Int) (b : Int)

theorem mod_one_of_dvd {q x : Nat} (hq : 2 ≤ q) (h : (q : Int) ∣ (x : Int) - 1) : x % q = 1 := by
  have h1 := mod_of_dvd_sub h
  rw [show (1 : Int) % (q : Int) = 1 from Int.emod_eq_of_lt (by omega) (by omega)] at h1
  have : ((x % q : Nat) : Int) = 1 := by rw [Int.natCast_emod]; exact h1
  omega
theorem one_mod_trans {q n x : Nat} (hq : 2 ≤ q) (hd : q ∣ n) (h : x % n = 1) : x % q = 1 :=
  mod_one_of_dvd hq (Int.dvd_trans (Int.natCast_dvd_natCast.2 hd) (dvd_of_mod_one h))
theorem Psp.fermat {n : Nat} (h : Psp n) : ∀ b ∈ bN, b ^ (n - 1) % n = 1 := by
  intro b hb
  have h1 := strong_fermat (by have := h.n3; omega) (h.strong b hb)
  have : ((b ^ (n - 1) % n : Nat) : Int) = 1 := by
    rw [Int.natCast_emod, Int.natCast_pow, show n - 1 = ((n : Int) - 1).toNat from by omega]; exact h1
  omega
theorem pow_gcd {a q k m : Nat} (hq : 2 ≤ q) (hk : 1 ≤ k) (hm : 1 ≤ m) (h1 : a ^ k % q = 1) (h2 : a ^ m % q = 1) : a ^ (Nat.gcd k m) % q = 1 := by
  have one : (1 : Int) % (q : Int) = 1 := Int.emod_eq_of_lt (by omega) (by omega)
  have cast : ∀ j, a ^ j % q = 1 → ((a : Int) ^ j) % (q : Int) = 1 % (q : Int) := fun j hj => by
    rw [one, ← Int.natCast_pow, ← Int.natCast_emod, hj]; rfl
  obtain ⟨e, he⟩ := ord_exists (a : Int) (q : Int)
  obtain ⟨e1, d1⟩ := he.dvd hk (cast k h1)
  obtain ⟨_, d2⟩ := he.dvd hm (cast m h2)
  have ee : ((e.toNat : Nat) : Int) = e := Int.toNat_of_nonneg (by omega)
  rw [← ee] at d1 d2
  have d3 : e.toNat ∣ Nat.gcd k m := Nat.dvd_gcd (Int.natCast_dvd_natCast.1 d1) (Int.natCast_dvd_natCast.1 d2)
  have h3 := ord_pow he e1 (k := Nat.gcd k m) (by rw [← ee]; exact Int.natCast_dvd_natCast.2 d3)
  rw [one, ← Int.natCast_pow, ← Int.natCast_emod] at h3
  omega
theorem pow_mul_one {a q k : Nat} (hq : 2 ≤ q) (h : a ^ k % q = 1) (j : Nat) : a ^ (k * j) % q = 1 := by
  rw [Nat.pow_mul, Nat.pow_mod, h, Nat.one_pow]; exact Nat.mod_eq_of_lt (by omega)

/-- a prime that divides it -/
structure Pdv (n q : Nat) : Prop where
  p : IsP (q : Int)
  d : q ∣ n
  ne : q ≠ n
theorem Pdv.ge {n q : Nat} (hn : Psp n) (h : Pdv n q) : 41 ≤ q := by
  refine Classical.byContradiction fun hc => ?_
  have := h.p.1
  obtain ⟨b, hb, hqb⟩ := low_check q (by omega) (by omega)
  exact hn.nd b hb (Nat.mod_eq_zero_of_dvd (Nat.dvd_trans (Nat.dvd_of_mod_eq_zero hqb) h.d))
theorem prime_mod {q : Nat} (h : IsP (q : Int)) {c : Nat} (c2 : 2 ≤ c) (hc : c < q) : q % c ≠ 0 := by
  intro hm
  refine h.2 (c : Int) (by omega) (by omega) ?_
  rw [← Int.natCast_emod, hm]; rfl
theorem prime_six {q : Nat} (h : IsP (q : Int)) (h41 : 41 ≤ q) : q % 6 = 1 ∨ q % 6 = 5 := by
  have := prime_mod h (c := 2) (by omega) (by omega)
  have := prime_mod h (c := 3) (by omega) (by omega)
  omega
theorem prime_gcd {q : Nat} (h : IsP (q : Int)) (h41 : 41 ≤ q) : Nat.gcd q WG = 1 := by
  refine Classical.byContradiction fun hc => ?_
  have hpos : 0 < Nat.gcd q WG := Nat.gcd_pos_of_pos_left _ (by omega)
  obtain ⟨p, hp, hd⟩ := prime_div (m := (Nat.gcd q WG : Int)) (by omega)
  have h1 : p ∣ (q : Int) := Int.dvd_trans hd (Int.natCast_dvd_natCast.2 (Nat.gcd_dvd_left _ _))
  have h2 : p ∣ (WG : Int) := Int.dvd_trans hd (Int.natCast_dvd_natCast.2 (Nat.gcd_dvd_right _ _))
  have h3 : p ∣ (MM : Int) := Int.dvd_trans h2 ⟨6, by decide⟩
  obtain ⟨b, hb, e⟩ := dvd_MM hp h3
  have e2 := hp.eq_of_dvd h h1
  have := (bases_le (mem_bN hb)).2
  omega
theorem base_fermat {q : Nat} (h : IsP (q : Int)) (h41 : 41 ≤ q) {b : Nat} (hb : b ∈ bN) : b ^ (q - 1) % q = 1 := by
  have hb2 := bases_le (mem_bN hb)
  have hnd : ¬ (q : Int) ∣ (b : Int) := fun hc => by have := Int.le_of_dvd (by omega) hc; omega
  have h1 := h.fermat hnd
  have : ((b ^ (q - 1) % q : Nat) : Int) = 1 := by
    rw [Int.natCast_emod, Int.natCast_pow, show q - 1 = ((q : Int) - 1).toNat from by omega]; exact h1
  omega
theorem Pdv.ones {n q : Nat} (hn : Psp n) (h : Pdv n q) : Ones q (Nat.gcd (n - 1) (q - 1)) := by
  intro b hb
  have h41 := h.ge hn
  have := hn.n3
  exact pow_gcd (by omega) (by omega) (by omega) (one_mod_trans (by omega) h.d (hn.fermat b hb)) (base_fermat h.p h41 hb)
/-- the cofactor -/
theorem Pdv.split {n q : Nat} (hn : Psp n) (h : Pdv n q) {g : Nat} (g1 : g ∣ n - 1) (g2 : g ∣ q - 1) : ∃ t, 1 ≤ t ∧ n = q * (1 + t * g) := by
  obtain ⟨m, hm⟩ := h.d
  have h41 := h.ge hn
  have hn3 := hn.n3
  have hm2 : 2 ≤ m := by
    refine Classical.byContradiction fun hc => ?_
    have : m = 0 ∨ m = 1 := by omega
    rcases this with rfl | rfl
    · simp at hm; omega
    · exact h.ne (by simpa using hm.symm)
  have e : n - 1 = (q - 1) * m + (m - 1) := by
    rw [hm, Nat.sub_mul, Nat.one_mul]
    have : m ≤ q * m := Nat.le_mul_of_pos_left m (by omega)
    omega
  rw [e] at g1
  have g3 : g ∣ m - 1 := (Nat.dvd_add_right (Nat.dvd_trans g2 (Nat.dvd_mul_right _ _))).1 g1
  obtain ⟨t, ht⟩ := g3
  refine ⟨t, ?_, ?_⟩
  · refine Nat.one_le_iff_ne_zero.2 fun hc => ?_
    rw [hc, Nat.mul_zero] at ht; omega
  · rw [hm, Nat.mul_comm t g, ← ht]; congr 1; omega
theorem Pdv.gcd_even {n q : Nat} (hn : Psp n) (h : Pdv n q) : Nat.gcd (n - 1) (q - 1) % 2 = 0 ∧ 1 ≤ Nat.gcd (n - 1) (q - 1) := by
  have h41 := h.ge hn
  have := hn.odd
  have h6 := prime_six h.p h41
  have h2 : 2 ∣ Nat.gcd (n - 1) (q - 1) := Nat.dvd_gcd (by omega) (by omega)
  have hpos : 0 < Nat.gcd (n - 1) (q - 1) := Nat.gcd_pos_of_pos_right _ (by omega)
  exact ⟨Nat.mod_eq_zero_of_dvd h2, hpos⟩

/-- what a range's list and check give: q - 1 divides n - 1 -/
theorem Pdv.full {n q X hi : Nat} {S R : List Nat} (hn : Psp n) (h : Pdv n q) (hS : ListOk X S) (hX : 2 * (X * X) < q) (hXq : X < q) (hG : Good R q) (hhi : q - 1 < (hi + 1) * (2 * cnt S)) (h36 : hi ≤ 36)
    (hcov : ∀ D, 2 ≤ D → D ≤ hi → (∃ r ∈ R, 1 ≤ r ∧ r ∣ D) ∨ D * NN < q * (q - 1)) : q - 1 ∣ n - 1 := by
  have h41 := h.ge hn
  obtain ⟨ge, gp⟩ := h.gcd_even hn
  have ho := h.ones hn
  have hc := count_le h.p hXq gp ge ho hS hX
  obtain ⟨g, hg⟩ : ∃ g, g = Nat.gcd (n - 1) (q - 1) := ⟨_, rfl⟩
  rw [← hg] at ge gp ho hc
  have g1 : g ∣ n - 1 := by rw [hg]; exact Nat.gcd_dvd_left _ _
  have g2 : g ∣ q - 1 := by rw [hg]; exact Nat.gcd_dvd_right _ _
  obtain ⟨D, hD⟩ := g2
  have hDhi : D ≤ hi := by
    refine Classical.byContradiction fun hx => ?_
    have h1 : (hi + 1) * (2 * cnt S) ≤ D * g := Nat.mul_le_mul (by omega) hc
    rw [Nat.mul_comm D g, ← hD] at h1
    omega
  by_cases hD1 : D = 1
  · rw [hD, hD1, Nat.mul_one]; exact g1
  · have hD2 : 2 ≤ D := by
      refine Classical.byContradiction fun hx => ?_
      have : D = 0 := by omega
      subst this; simp at hD; omega
    exfalso
    obtain ⟨t, t1, hnt⟩ := h.split hn g1 ⟨D, hD⟩
    have hqD : (q - 1) % D = 0 := by rw [hD]; exact Nat.mul_mod_left _ _
    have hdiv : (q - 1) / D = g := by rw [hD]; exact Nat.mul_div_cancel _ (by omega)
    rcases hG with ⟨d, d2, dq, hd⟩ | hG | hG
    · exact prime_mod h.p d2 dq hd
    · rcases hcov D hD2 hDhi with ⟨r, hr, r1, j, hj⟩ | hlt
      · have hqr : (q - 1) % r = 0 := by rw [hD, hj, ← Nat.mul_assoc, Nat.mul_comm g r, Nat.mul_assoc]; exact Nat.mul_mod_right _ _
        obtain ⟨b, hb, hne⟩ := hG r hr hqr
        have e : (q - 1) / r = g * j := by
          rw [hD, hj, ← Nat.mul_assoc, Nat.mul_comm g r, Nat.mul_assoc]; exact Nat.mul_div_cancel_left _ (by omega)
        rw [e] at hne
        exact hne (pow_mul_one (by omega) (ho b hb) j)
      · have h0 : 1 * g ≤ t * g := Nat.mul_le_mul_right g t1
        have h1 : q * (1 * g) ≤ q * (1 + t * g) := Nat.mul_le_mul_left q (by omega)
        rw [← hnt, Nat.one_mul] at h1
        have h2 : D * (q * g) ≤ D * NN := Nat.mul_le_mul_left D (Nat.le_trans h1 hn.le)
        have h3 : D * (q * g) = q * (q - 1) := by rw [hD]; ac_rfl
        omega
    · rcases hG D hD2 (by omega) hqD with ⟨b, hb, hne⟩ | hall
      · rw [hdiv] at hne; exact hne (ho b hb)
      · rw [hdiv] at hall
        have hT : t ≤ NN / (q * g) := by
          refine (Nat.le_div_iff_mul_le (Nat.mul_pos (by omega) (by omega))).2 ?_
          have : t * (q * g) ≤ q * (1 + t * g) := by
            have : t * (q * g) = q * (t * g) := by ac_rfl
            rw [this]; exact Nat.mul_le_mul_left q (by omega)
          rw [← hnt] at this
          exact Nat.le_trans this hn.le
        obtain ⟨b, hb, hne⟩ := hall t t1 hT
        rw [← hnt] at hne
        exact hne (hn.fermat b hb)
/-- some base is no square by q -/
theorem Pdv.nonres {n q : Nat} {R : List Nat} (hn : Psp n) (h : Pdv n q) (hG : Good R q) (h2 : 2 ∈ R) (hf : q - 1 ∣ n - 1) : ∃ b ∈ bN, b ^ ((q - 1) / 2) % q ≠ 1 := by
  have h41 := h.ge hn
  have h6 := prime_six h.p h41
  have hq2 : (q - 1) % 2 = 0 := by omega
  rcases hG with ⟨d, d2, dq, hd⟩ | hG | hG
  · exact absurd hd (prime_mod h.p d2 dq)
  · exact hG 2 h2 hq2
  · rcases hG 2 (by omega) (by omega) hq2 with hb | hall
    · exact hb
    · exfalso
      have e2 : (q - 1) / 2 ∣ q - 1 := ⟨2, by omega⟩
      obtain ⟨t, t1, hnt⟩ := h.split hn (Nat.dvd_trans e2 hf) e2
      have hT : t ≤ NN / (q * ((q - 1) / 2)) := by
        refine (Nat.le_div_iff_mul_le (Nat.mul_pos (by omega) (by omega))).2 ?_
        have : t * (q * ((q - 1) / 2)) ≤ q * (1 + t * ((q - 1) / 2)) := by
          have : t * (q * ((q - 1) / 2)) = q * (t * ((q - 1) / 2)) := by ac_rfl
          rw [this]; exact Nat.mul_le_mul_left q (by omega)
        rw [← hnt] at this
        exact Nat.le_trans this hn.le
      obtain ⟨b, hb, hne⟩ := hall t t1 hT
      rw [← hnt] at hne
      exact hne (hn.fermat b hb)
/-- no great prime divides it -/
theorem Pdv.large {n q X : Nat} {S : List Nat} (hn : Psp n) (h : Pdv n q) (hS : ListOk X S) (hX : 2 * (X * X) < q) (hXq : X < q) (hbig : NN < q * (1 + 2 * cnt S)) : False := by
  obtain ⟨ge, gp⟩ := h.gcd_even hn
  have hc := count_le h.p hXq gp ge (h.ones hn) hS hX
  obtain ⟨t, t1, hnt⟩ := h.split hn (Nat.gcd_dvd_left _ _) (Nat.gcd_dvd_right _ _)
  have h1 : q * (1 + 2 * cnt S) ≤ q * (1 + t * Nat.gcd (n - 1) (q - 1)) := Nat.mul_le_mul_left q (by
    have : 1 * Nat.gcd (n - 1) (q - 1) ≤ t * Nat.gcd (n - 1) (q - 1) := Nat.mul_le_mul_right _ t1
    omega)
  rw [← hnt] at h1
  have := hn.le
  omega
/-- no square divides it -/
theorem Pdv.sqfree {n q : Nat} (hn : Psp n) (h : Pdv n q) (hsq : ¬ (2 ^ (q - 1) % (q * q) = 1 ∧ 3 ^ (q - 1) % (q * q) = 1)) : ¬ q * q ∣ n := by
  intro hd
  have h41 := h.ge hn
  have hn3 := hn.n3
  have hqq : 2 ≤ q * q := by have : 41 * 41 ≤ q * q := Nat.mul_le_mul h41 h41
                             omega
  have key : ∀ b ∈ bN, b ^ (q - 1) % (q * q) = 1 := by
    intro b hb
    have hb2 := bases_le (mem_bN hb)
    have hnd : ¬ (q : Int) ∣ (b : Int) := fun hc => by have := Int.le_of_dvd (by omega) hc; omega
    have h1 := one_mod_trans hqq hd (hn.fermat b hb)
    have h2 := pp_euler h.p hnd 1
    have h3 : b ^ (q * (q - 1)) % (q * q) = 1 := by
      refine mod_one_of_dvd hqq ?_
      have e1 : ((q : Int) ^ 1).toNat * ((q : Int) - 1).toNat = q * (q - 1) := by
        rw [Int.pow_succ, Int.pow_zero, Int.one_mul]; congr 1; omega
      have e2 : (q : Int) ^ (1 + 1) = ((q * q : Nat) : Int) := by rw [Int.pow_succ, Int.pow_succ, Int.pow_zero, Int.one_mul, Int.natCast_mul]
      rw [e1, e2] at h2
      rwa [Int.natCast_pow]
    have h4 := pow_gcd hqq (by omega) (Nat.mul_pos (by omega) (by omega)) h1 h3
    have hcop : Nat.Coprime (Nat.gcd (n - 1) (q * (q - 1))) q := by
      have hg : Nat.gcd (Nat.gcd (n - 1) (q * (q - 1))) q ∣ n - 1 := Nat.dvd_trans (Nat.gcd_dvd_left _ _) (Nat.gcd_dvd_left _ _)
      have hg2 : Nat.gcd (Nat.gcd (n - 1) (q * (q - 1))) q ∣ n := Nat.dvd_trans (Nat.gcd_dvd_right _ _) h.d
      have hg3 : Nat.gcd (Nat.gcd (n - 1) (q * (q - 1))) q ∣ 1 := by
        have := (Nat.dvd_add_right hg).1 (show _ ∣ (n - 1) + 1 by rw [Nat.sub_add_cancel (by omega)]; exact hg2)
        exact this
      exact Nat.dvd_one.1 hg3
    have h5 : Nat.gcd (n - 1) (q * (q - 1)) ∣ q - 1 := hcop.dvd_of_dvd_mul_left (Nat.gcd_dvd_right _ _)
    obtain ⟨j, hj⟩ := h5
    rw [hj]
    exact pow_mul_one hqq h4 j
  exact hsq ⟨key 2 (by decide), key 3 (by decide)⟩
end Go.Proofs.YtcglffigbdglpaaDoor
