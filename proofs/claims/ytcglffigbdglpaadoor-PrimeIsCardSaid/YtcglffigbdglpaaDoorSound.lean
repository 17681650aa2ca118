/- Up to 2^40 only primes pass the test by twelve bases. No program is named here. -/
import Derived.Test.YtcglffigbdglpaaDoorSearch
import Derived.Test.YtcglffigbdglpaaDoorChkA
import Derived.Test.YtcglffigbdglpaaDoorChkB
import Derived.Test.YtcglffigbdglpaaDoorChkC
import Derived.Test.YtcglffigbdglpaaDoorChkD
import Derived.Test.YtcglffigbdglpaaDoorChkE
import Derived.Test.YtcglffigbdglpaaDoorChkF
import Derived.Test.YtcglffigbdglpaaDoorChkG
import Derived.Test.YtcglffigbdglpaaDoorChkH
import Derived.Test.YtcglffigbdglpaaDoorChkI
import Derived.Test.YtcglffigbdglpaaDoorChkJ
import Derived.Test.YtcglffigbdglpaaDoorChkZ
import Derived.Test.YtcglffigbdglpaaDoorChkS
namespace Go.Proofs.YtcglffigbdglpaaDoor
open Dia

theorem full_all {n q : Nat} (hn : Psp n) (h : Pdv n q) : q - 1 ∣ n - 1 := by
  have h41 := h.ge hn
  by_cases cA : q < 804
  · exact fullA hn h (by omega) (by omega)
  by_cases cB : q < 13092
  · exact fullQB hn h (by omega) (by omega)
  by_cases cC : q < 111396
  · exact fullC hn h (by omega) (by omega)
  by_cases cD : q < 504612
  · exact fullD hn h (by omega) (by omega)
  by_cases cE : q < 1291044
  · exact fullE hn h (by omega) (by omega)
  by_cases cF : q < 2077476
  · exact fullF hn h (by omega) (by omega)
  by_cases cG : q < 2863908
  · exact fullG hn h (by omega) (by omega)
  by_cases cH : q < 3650340
  · exact fullH hn h (by omega) (by omega)
  by_cases cI : q < 4436772
  · exact fullI hn h (by omega) (by omega)
  by_cases cJ : q < 4829988
  · exact fullJ hn h (by omega) (by omega)
  · exact (noneZ hn h (by omega)).elim
theorem nonres_all {n q : Nat} (hn : Psp n) (h : Pdv n q) (hq : q < 504612) : ∃ b ∈ bN, b ^ ((q - 1) / 2) % q ≠ 1 := by
  have h41 := h.ge hn
  by_cases cA : q < 804
  · exact nonresA hn h (by omega) (by omega)
  by_cases cB : q < 13092
  · exact nonresB hn h (by omega) (by omega)
  by_cases cC : q < 111396
  · exact nonresC hn h (by omega) (by omega)
  · exact nonresD hn h (by omega) (by omega)

theorem least_prime {m : Nat} (h : 2 ≤ m) : ∃ q : Nat, IsP (q : Int) ∧ q ∣ m ∧ ∀ d : Nat, 2 ≤ d → d ∣ m → q ≤ d := by
  obtain ⟨q, ⟨q2, qd⟩, hl⟩ := least_nat (fun k => 2 ≤ k ∧ k ∣ m) m ⟨h, Nat.dvd_refl m⟩
  refine ⟨q, ⟨by omega, fun d d2 dq hd => ?_⟩, qd, fun d d2 dd => ?_⟩
  · refine hl d.toNat (by omega) ⟨by omega, Nat.dvd_trans ?_ qd⟩
    refine Int.natCast_dvd_natCast.1 ?_
    rw [Int.toNat_of_nonneg (by omega)]
    exact Int.dvd_of_emod_eq_zero hd
  · refine Classical.byContradiction fun hc => hl d (by omega) ⟨d2, dd⟩

theorem no_psp {n : Nat} (hn : Psp n) (hp : ¬ IsP (n : Int)) : False := by
  have hn3 := hn.n3
  obtain ⟨p, pp, pd, pl⟩ := least_prime (m := n) (by omega)
  have hpn : p ≠ n := fun e => hp (e ▸ pp)
  have Dp : Pdv n p := ⟨pp, pd, hpn⟩
  have p41 := Dp.ge hn
  obtain ⟨m, hm⟩ := pd
  have m2 : 2 ≤ m := by
    refine Classical.byContradiction fun hc => ?_
    have : m = 0 ∨ m = 1 := by omega
    rcases this with rfl | rfl
    · simp at hm; omega
    · exact hpn (by simpa using hm.symm)
  obtain ⟨q, qp, qd, ql⟩ := least_prime m2
  have qn : q ∣ n := by rw [hm]; exact Nat.dvd_trans qd (Nat.dvd_mul_left _ _)
  have q2 : 2 ≤ q := by have := qp.1; omega
  have hpq := pl q q2 qn
  have hmn : m < n := by
    rw [hm]
    have : 2 * m ≤ p * m := Nat.mul_le_mul_right m (by omega)
    omega
  have hqm := Nat.le_of_dvd (by omega) qd
  have Dq : Pdv n q := ⟨qp, qn, by omega⟩
  have hne : p ≠ q := by
    rintro rfl
    refine sqfree hn Dp ?_
    rw [hm]; exact Nat.mul_dvd_mul (Nat.dvd_refl _) qd
  obtain ⟨c, hc⟩ := qd
  have hnc : n = p * q * c := by rw [hm, hc, Nat.mul_assoc]
  have fp := full_all hn Dp
  have fq := full_all hn Dq
  have hcq : q + 1 ≤ c := by
    have c0 : c ≠ 0 := by rintro rfl; simp at hc; omega
    by_cases c1 : c = 1
    · exfalso
      subst c1
      rw [Nat.mul_one] at hnc
      have e : n - 1 = p * (q - 1) + (p - 1) := by
        rw [hnc, Nat.mul_sub, Nat.mul_one]
        have : p ≤ p * q := Nat.le_mul_of_pos_right p (by omega)
        omega
      rw [e] at fq
      have h1 := (Nat.dvd_add_right (Nat.dvd_mul_left (q - 1) p)).1 fq
      have := Nat.le_of_dvd (by omega) h1
      omega
    · obtain ⟨r, rp, rd, _⟩ := least_prime (m := c) (by omega)
      have r2 : 2 ≤ r := by have := rp.1; omega
      have h1 := ql r r2 (by rw [hc]; exact Nat.dvd_trans rd (Nat.dvd_mul_left _ _))
      have h2 : r ≠ q := by
        rintro rfl
        refine sqfree hn Dq ?_
        rw [hnc, Nat.mul_assoc]; exact Nat.dvd_trans (Nat.mul_dvd_mul (Nat.dvd_refl _) rd) (Nat.dvd_mul_left _ _)
      have := Nat.le_of_dvd (by omega) rd
      omega
  have hle : p * q * (q + 1) ≤ NN := by
    have h1 : p * q * (q + 1) ≤ p * q * c := Nat.mul_le_mul_left _ hcq
    rw [← hnc] at h1
    exact Nat.le_trans h1 hn.le
  have hq2 : q < 163765 := by
    refine Classical.byContradiction fun hx => ?_
    have h1 : 41 * 163765 ≤ p * q := Nat.mul_le_mul p41 (by omega)
    have h2 : 41 * 163765 * 163766 ≤ p * q * (q + 1) := Nat.mul_le_mul h1 (by omega)
    have h3 : NN = 1099511627776 := rfl
    omega
  have hs := same_squares hn Dp Dq fp fq (nonres_all hn Dp (by omega)) (nonres_all hn Dq (by omega))
  have hb : ∀ b ∈ bN, bit b p = bit b q := fun b hb => by
    have h1 := hs b hb
    rw [← bit_iff, ← bit_iff] at h1
    cases e1 : bit b p <;> cases e2 : bit b q
    · rfl
    · rw [e1, e2] at h1; exact absurd (h1.2 rfl) (by decide)
    · rw [e1, e2] at h1; exact absurd (h1.1 rfl) (by decide)
    · rfl
  exact pairOk_ok (pair_all pp qp p41 (by omega) hb hle) hn Dp Dq fp fq hnc hcq

/-- up to 2^40 only primes pass -/
theorem isB_sound {n : Int} (h2 : n ≤ 1099511627776) (h : isB n = true) : IsP n := by
  obtain ⟨h1, _, hb⟩ := isB_iff.1 h
  by_cases hs : n ≤ 4200
  · exact isB_small hs h
  · refine Classical.byContradiction fun hp => ?_
    have en : ((n.toNat : Nat) : Int) = n := Int.toNat_of_nonneg (by omega)
    rcases hb with ⟨b, hb, rfl⟩ | ⟨hd, hst⟩
    · have := (bases_le hb).2
      omega
    · have hodd := hd 2 (by decide)
      have hNN : n.toNat ≤ NN := by
        have h3 : NN = 1099511627776 := rfl
        omega
      refine no_psp (n := n.toNat) ⟨by omega, by omega, hNN, fun b hb hm => ?_, fun b hb => ?_⟩ (by rw [en]; exact hp)
      · refine hd (b : Int) (mem_bN hb) ?_
        have : ((n.toNat % b : Nat) : Int) = 0 := by rw [hm]; rfl
        rwa [Int.natCast_emod, en] at this
      · rw [en]; exact hst (b : Int) (mem_bN hb)
end Go.Proofs.YtcglffigbdglpaaDoor
