/- Layer 2 in plain numbers: up to 4200 only primes pass the test by twelve bases; each prime up to 300 has a root. Finite checks. No program is named here. -/
import Derived.Test.YtcglffigbdglpaaDoorEuler
namespace Go.Proofs.YtcglffigbdglpaaDoor
open Dia

/-- who passes the strong test passes Fermat's -/
theorem strong_fermat {n b : Int} (hn : 3 ≤ n) (h : Strong n b) : (b ^ (n - 1).toNat) % n = 1 := by
  obtain ⟨s, d, k, _, h⟩ := h
  have one : (1 : Int) % n = 1 := Int.emod_eq_of_lt (by omega) (by omega)
  rw [k, Nat.mul_comm]
  rcases h with h | ⟨r, hr, h⟩
  · rw [Int.pow_mul, ← pow_emod, h, Int.one_pow, one]
  · obtain ⟨j, hj⟩ : ∃ j, s = r + 1 + j := ⟨s - r - 1, by omega⟩
    have e : d * 2 ^ s = 2 ^ r * d * (2 * 2 ^ j) := by
      rw [hj, Nat.pow_add, Nat.pow_succ]; ac_rfl
    rw [e, Int.pow_mul, ← pow_emod, h, Int.pow_mul]
    have e2 : (n - 1) ^ 2 = 1 + n * (n - 2) := by
      rw [Int.pow_succ, Int.pow_succ, Int.pow_zero, Int.one_mul]; simp only [Int.sub_mul, Int.mul_sub]; omega
    rw [← pow_emod, e2, Int.add_mul_emod_self_left, one, Int.one_pow, one]

def bN : List Nat := [2, 3, 5, 7, 11, 13, 17, 19, 23, 29, 31, 37]
def smallCheck : Bool := (List.range 24).all fun i => (List.range 62).all fun j => bN.any (fun b => (41 + i) * (41 + j) % b == 0) || (2 ^ ((41 + i) * (41 + j) - 1) % ((41 + i) * (41 + j)) != 1)
theorem smallCheck_ok : smallCheck = true := by decide +kernel
theorem low_check : ∀ c, c < 41 → 2 ≤ c → ∃ b ∈ bN, c % b = 0 := by decide
theorem base_check : ∀ b ∈ bN, ∀ c, c < 7 → 2 ≤ c → c * c ≤ b → b % c ≠ 0 := by decide
theorem mem_bN {b : Nat} (h : b ∈ bN) : (b : Int) ∈ basesL := by
  have : ∀ x ∈ bN, (x : Int) ∈ basesL := by decide
  exact this b h
theorem bN_mem {b : Int} (h : b ∈ basesL) : b.toNat ∈ bN := by
  have : ∀ x ∈ basesL, x.toNat ∈ bN := by decide
  exact this b h

theorem isB_small {n : Int} (h2 : n ≤ 4200) (h : isB n = true) : IsP n := by
  obtain ⟨h1, _, h⟩ := isB_iff.1 h
  refine Classical.byContradiction fun hp => ?_
  obtain ⟨c, c2, cc, hc, hl⟩ := least_div h1 hp
  have hcn : n.toNat % c.toNat = 0 := by
    have : ((n.toNat % c.toNat : Nat) : Int) = 0 := by rw [Int.natCast_emod, Int.toNat_of_nonneg (by omega), Int.toNat_of_nonneg (by omega)]; exact hc
    omega
  rcases h with ⟨b, hb, rfl⟩ | ⟨hd, hs⟩
  · have hb2 := bases_le hb
    have hc7 : c < 7 := by
      refine Classical.byContradiction fun hh => ?_
      have : 7 * 7 ≤ c * c := Int.mul_le_mul (by omega) (by omega) (by omega) (by omega)
      omega
    refine base_check _ (bN_mem hb) c.toNat (by omega) (by omega) ?_ hcn
    have : ((c.toNat * c.toNat : Nat) : Int) ≤ (n.toNat : Int) := by rw [Int.natCast_mul, Int.toNat_of_nonneg (by omega), Int.toNat_of_nonneg (by omega)]; exact cc
    omega
  · have c41 : 41 ≤ c := by
      refine Classical.byContradiction fun hh => ?_
      obtain ⟨b, hb, hcb⟩ := low_check c.toNat (by omega) (by omega)
      refine hd b (mem_bN hb) (Int.emod_eq_zero_of_dvd (Int.dvd_trans ?_ (Int.dvd_of_emod_eq_zero hc)))
      have : (b : Int) ∣ (c.toNat : Int) := Int.natCast_dvd_natCast.2 (Nat.dvd_of_mod_eq_zero hcb)
      rwa [Int.toNat_of_nonneg (by omega)] at this
    have c64 : c ≤ 64 := by
      refine Classical.byContradiction fun hh => ?_
      have : 65 * 65 ≤ c * c := Int.mul_le_mul (by omega) (by omega) (by omega) (by omega)
      omega
    obtain ⟨m, hm⟩ := Int.dvd_of_emod_eq_zero hc
    have hcm : c ≤ m := by
      refine Classical.byContradiction fun hh => ?_
      have : c * m < c * c := Int.mul_lt_mul_of_pos_left (by omega) (by omega)
      omega
    have m102 : m ≤ 102 := by
      refine Classical.byContradiction fun hh => ?_
      have : 41 * 103 ≤ c * m := Int.mul_le_mul c41 (by omega) (by omega) (by omega)
      omega
    have hchk := smallCheck_ok
    unfold smallCheck at hchk
    have h3 := List.all_eq_true.1 hchk (c.toNat - 41) (List.mem_range.2 (by omega))
    have h4 := List.all_eq_true.1 h3 (m.toNat - 41) (List.mem_range.2 (by omega))
    rw [show 41 + (c.toNat - 41) = c.toNat from by omega, show 41 + (m.toNat - 41) = m.toNat from by omega] at h4
    have hnm : c.toNat * m.toNat = n.toNat := by rw [hm, Int.toNat_mul (by omega) (by omega)]
    rw [hnm] at h4
    rcases Bool.or_eq_true_iff.1 h4 with h5 | h5
    · obtain ⟨b, hb, h6⟩ := List.any_eq_true.1 h5
      have h7 : n.toNat % b = 0 := by simpa using h6
      refine hd b (mem_bN hb) ?_
      have : ((n.toNat % b : Nat) : Int) = 0 := by rw [h7]; rfl
      rwa [Int.natCast_emod, Int.toNat_of_nonneg (by omega)] at this
    · have hn3 : 41 * 41 ≤ c * c := Int.mul_le_mul c41 c41 (by omega) (by omega)
      have hF := strong_fermat (by omega) (hs 2 (by decide))
      have h8 : 2 ^ (n.toNat - 1) % n.toNat ≠ 1 := by simpa using h5
      refine h8 ?_
      have : ((2 ^ (n.toNat - 1) % n.toNat : Nat) : Int) = 1 := by
        rw [Int.natCast_emod, Int.natCast_pow, Int.toNat_of_nonneg (by omega), show n.toNat - 1 = (n - 1).toNat from by omega]; exact hF
      omega

def rootCheck : Bool := (List.range 299).all fun i => (List.range 18).any (fun d => 2 ≤ d && d < i + 2 && (i + 2) % d == 0) ||
  (List.range 40).any fun g => 1 ≤ g && g < i + 2 && (List.range (i + 2)).all fun q => q < 2 || (i + 1) % q != 0 || g ^ ((i + 1) / q) % (i + 2) != 1
theorem rootCheck_ok : rootCheck = true := by decide +kernel

theorem root_small {p : Int} (hp : IsP p) (h : p ≤ 300) : ∃ g : Int, 1 ≤ g ∧ g < p ∧ ∀ q : Int, 2 ≤ q → q ≤ p - 1 → (p - 1) % q = 0 → (g ^ ((p - 1) / q).toNat) % p ≠ 1 := by
  have p2 := hp.1
  have hchk := rootCheck_ok
  unfold rootCheck at hchk
  have h3 := List.all_eq_true.1 hchk (p.toNat - 2) (List.mem_range.2 (by omega))
  rw [show p.toNat - 2 + 2 = p.toNat from by omega, show p.toNat - 2 + 1 = p.toNat - 1 from by omega] at h3
  rcases Bool.or_eq_true_iff.1 h3 with h4 | h4
  · obtain ⟨d, _, h5⟩ := List.any_eq_true.1 h4
    simp only [Bool.and_eq_true, decide_eq_true_eq, beq_iff_eq] at h5
    obtain ⟨⟨d2, dp⟩, h6⟩ := h5
    refine absurd ?_ (hp.2 d (by omega) (by omega))
    have : ((p.toNat % d : Nat) : Int) = 0 := by rw [h6]; rfl
    rwa [Int.natCast_emod, Int.toNat_of_nonneg (by omega)] at this
  · obtain ⟨g, _, h5⟩ := List.any_eq_true.1 h4
    simp only [Bool.and_eq_true, decide_eq_true_eq] at h5
    obtain ⟨⟨g1, gp⟩, h6⟩ := h5
    refine ⟨g, by omega, by omega, fun q q2 qp hq hc => ?_⟩
    have h7 := List.all_eq_true.1 h6 q.toNat (List.mem_range.2 (by omega))
    simp only [Bool.or_eq_true, decide_eq_true_eq, bne_iff_ne] at h7
    have e1 : ((p.toNat - 1 : Nat) : Int) = p - 1 := by omega
    rcases h7 with (h7 | h7) | h7
    · omega
    · refine h7 ?_
      have : (((p.toNat - 1) % q.toNat : Nat) : Int) = 0 := by rw [Int.natCast_emod, e1, Int.toNat_of_nonneg (by omega)]; exact hq
      omega
    · refine h7 ?_
      have e2 : ((p - 1) / q).toNat = (p.toNat - 1) / q.toNat := by
        have : (((p.toNat - 1) / q.toNat : Nat) : Int) = (p - 1) / q := by rw [Int.natCast_ediv, e1, Int.toNat_of_nonneg (by omega)]
        have : 0 ≤ (p - 1) / q := Int.ediv_nonneg (by omega) (by omega)
        omega
      have : ((g ^ ((p.toNat - 1) / q.toNat) % p.toNat : Nat) : Int) = 1 := by
        rw [Int.natCast_emod, Int.natCast_pow, Int.toNat_of_nonneg (by omega), ← e2]; exact hc
      omega
/-- a prime up to 300 has a root -/
theorem root_ex {p : Int} {l : List (Int × Nat)} (hp : IsP p) (h : p ≤ 300) (hF : IsFac (p - 1) l) : ∃ g : Int, 1 ≤ g ∧ g < p ∧ Full g p l := by
  obtain ⟨g, g1, gp, hg⟩ := root_small hp h
  refine ⟨g, g1, gp, fun x hx => ?_⟩
  have hd := fprod_dvd l hF.pos x hx
  rw [hF.eq] at hd
  have := Int.le_of_dvd (by have := hp.1; omega) hd
  exact hg x.1 (hF.prime x hx).1 (by omega) (Int.emod_eq_zero_of_dvd hd)
end Go.Proofs.YtcglffigbdglpaaDoor
