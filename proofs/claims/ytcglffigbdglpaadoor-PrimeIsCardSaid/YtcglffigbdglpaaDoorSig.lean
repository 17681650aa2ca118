/- Two primes that divide such a number have the same squares among the bases. No program is named here. -/
import Derived.Test.YtcglffigbdglpaaDoorPsp
namespace Go.Proofs.YtcglffigbdglpaaDoor
open Dia

theorem odd_pow_add (x : Int) {j : Nat} (h : j % 2 = 1) : x + 1 ∣ x ^ j + 1 := by
  have h1 := dvd_pow_sub (-x) j
  obtain ⟨k, rfl⟩ : ∃ k, j = 2 * k + 1 := ⟨j / 2, by omega⟩
  rw [Int.pow_succ, even_neg_pow _ (by omega)] at h1
  rw [Int.pow_succ]
  have e1 : -x - 1 = -(x + 1) := by omega
  have e2 : x ^ (2 * k) * -x - 1 = -(x ^ (2 * k) * x + 1) := by rw [Int.mul_neg]; omega
  rw [e1, e2] at h1
  exact Int.dvd_neg.1 (Int.neg_dvd.1 h1)
theorem not_both {p : Int} (hp : 3 ≤ p) {y : Int} (h1 : p ∣ y - 1) (h2 : p ∣ y + 1) : False := by
  have h3 := Int.dvd_sub h2 h1
  have e : y + 1 - (y - 1) = 2 := by omega
  rw [e] at h3
  have := Int.le_of_dvd (by omega) h3
  omega

/-- the halves of p - 1 -/
theorem two_part : ∀ m : Nat, 1 ≤ m → ∃ a k, m = 2 ^ a * k ∧ k % 2 = 1 := by
  intro m
  induction m using Nat.strongRecOn with
  | _ m ih =>
    intro hm
    by_cases h : m % 2 = 1
    · exact ⟨0, m, by simp, h⟩
    · obtain ⟨a, k, e, hk⟩ := ih (m / 2) (by omega) (by omega)
      exact ⟨a + 1, k, by rw [Nat.pow_succ, Nat.mul_comm (2 ^ a) 2, Nat.mul_assoc, ← e]; omega, hk⟩
theorem odd_dvd {k s d : Nat} (hk : k % 2 = 1) (h : k ∣ 2 ^ s * d) : k ∣ d := by
  refine Nat.Coprime.dvd_of_dvd_mul_left ?_ h
  refine Nat.Coprime.pow_right s ?_
  have h1 : Nat.gcd k 2 ∣ 2 := Nat.gcd_dvd_right _ _
  have h2 : Nat.gcd k 2 ∣ k := Nat.gcd_dvd_left _ _
  have h3 := Nat.le_of_dvd (by decide) h1
  have h4 : 0 < Nat.gcd k 2 := Nat.gcd_pos_of_pos_right _ (by decide)
  have h5 : Nat.gcd k 2 ≠ 2 := fun hc => by rw [hc] at h2; omega
  show Nat.gcd k 2 = 1
  omega

/-- what one base says at a prime p: its power of (p - 1)/2 is no 1 just where the strong test meets -1 at p's own last halving -/
theorem base_at_prime {n p b s d : Nat} (hn : Psp n) (hp : Pdv n p) (hb : b ∈ bN) (hf : p - 1 ∣ n - 1) (hs : n - 1 = 2 ^ s * d) (hd : d % 2 = 1) {a k : Nat} (ha : p - 1 = 2 ^ a * k) (hk : k % 2 = 1) :
    ((p : Int) ∣ (b : Int) ^ d - 1 → b ^ ((p - 1) / 2) % p = 1) ∧
    ∀ r, (p : Int) ∣ (b : Int) ^ (2 ^ r * d) + 1 → r < a ∧ (b ^ ((p - 1) / 2) % p ≠ 1 ↔ r + 1 = a) := by
  have h41 := hp.ge hn
  have h6 := prime_six hp.p h41
  have a1 : 1 ≤ a := by
    refine Nat.one_le_iff_ne_zero.2 fun hc => ?_
    subst hc; simp at ha; omega
  obtain ⟨c, rfl⟩ : ∃ c, a = c + 1 := ⟨a - 1, by omega⟩
  have hhalf : (p - 1) / 2 = 2 ^ c * k := by rw [ha, Nat.pow_succ, Nat.mul_comm (2 ^ c) 2, Nat.mul_assoc]; omega
  obtain ⟨j, hj⟩ : k ∣ d := odd_dvd hk (by rw [← hs]; exact Nat.dvd_trans ⟨2 ^ (c + 1), by rw [ha, Nat.mul_comm]⟩ hf)
  have hjo : j % 2 = 1 := by
    rcases Nat.mod_two_eq_zero_or_one j with h | h
    · rw [hj, Nat.mul_mod, h] at hd; simp at hd
    · exact h
  have hferm : (p : Int) ∣ ((b : Int) ^ (2 ^ c * k)) ^ 2 - 1 := by
    have h1 := dvd_of_mod_one (base_fermat hp.p h41 hb)
    rw [Int.natCast_pow, ha, Nat.pow_succ, Nat.mul_assoc, Nat.mul_comm 2 k, ← Nat.mul_assoc, Int.pow_mul] at h1
    exact h1
  have hu : (p : Int) ∣ (b : Int) ^ (2 ^ c * k) - 1 ∨ (p : Int) ∣ (b : Int) ^ (2 ^ c * k) + 1 := by
    have e : ((b : Int) ^ (2 ^ c * k)) ^ 2 - 1 = ((b : Int) ^ (2 ^ c * k) - 1) * ((b : Int) ^ (2 ^ c * k) + 1) := by
      rw [Int.pow_succ, Int.pow_succ, Int.pow_zero, Int.one_mul, Int.sub_mul, Int.mul_add]; omega
    rw [e] at hferm
    exact hp.p.dvd_mul hferm
  have huj : ((b : Int) ^ (2 ^ c * k)) ^ j = (b : Int) ^ (2 ^ c * d) := by rw [← Int.pow_mul, hj, Nat.mul_assoc]
  have one_iff : b ^ ((p - 1) / 2) % p = 1 ↔ (p : Int) ∣ (b : Int) ^ (2 ^ c * k) - 1 := by
    rw [hhalf, ← Int.natCast_pow]
    exact ⟨fun h => dvd_of_mod_one h, fun h => mod_one_of_dvd (by omega) h⟩
  have up1 : (p : Int) ∣ (b : Int) ^ (2 ^ c * k) - 1 → (p : Int) ∣ (b : Int) ^ (2 ^ c * d) - 1 := fun h => by
    rw [← huj]; exact Int.dvd_trans h (dvd_pow_sub _ _)
  have up2 : (p : Int) ∣ (b : Int) ^ (2 ^ c * k) + 1 → (p : Int) ∣ (b : Int) ^ (2 ^ c * d) + 1 := fun h => by
    rw [← huj]; exact Int.dvd_trans h (odd_pow_add _ hjo)
  refine ⟨fun h => ?_, fun r hr => ?_⟩
  · rw [one_iff]
    rcases hu with h1 | h1
    · exact h1
    · refine absurd (up2 h1) fun h2 => not_both (by omega) ?_ h2
      rw [Nat.mul_comm, Int.pow_mul]; exact Int.dvd_trans h (dvd_pow_sub _ _)
  · have hra : r < c + 1 := by
      refine Classical.byContradiction fun hc => ?_
      refine not_both (by omega) ?_ hr
      have h1 : (p : Int) ∣ (b : Int) ^ (2 ^ (c + 1) * k) - 1 := by
        rw [Nat.pow_succ, Nat.mul_assoc, Nat.mul_comm 2 k, ← Nat.mul_assoc, Int.pow_mul]; exact hferm
      have e : 2 ^ r * d = 2 ^ (c + 1) * k * (2 ^ (r - (c + 1)) * j) := by
        rw [hj]
        have : 2 ^ r = 2 ^ (c + 1) * 2 ^ (r - (c + 1)) := by rw [← Nat.pow_add]; congr 1; omega
        rw [this]; ac_rfl
      rw [e, Int.pow_mul]; exact Int.dvd_trans h1 (dvd_pow_sub _ _)
    refine ⟨hra, ?_⟩
    show ¬ (b ^ ((p - 1) / 2) % p = 1) ↔ _
    rw [one_iff]
    constructor
    · intro hne
      refine Classical.byContradiction fun hc => hne ?_
      rcases hu with h1 | h1
      · exact h1
      · refine absurd (up2 h1) fun h2 => not_both (by omega) ?_ h2
        have e : 2 ^ c * d = 2 ^ r * d * (2 * 2 ^ (c - r - 1)) := by
          have : 2 ^ c = 2 ^ r * (2 * 2 ^ (c - r - 1)) := by rw [← Nat.pow_succ', ← Nat.pow_add]; congr 1; omega
          rw [this]; ac_rfl
        rw [e, Int.pow_mul, Int.pow_mul (n := 2)]
        have h3 := dvd_pow_sub (((b : Int) ^ (2 ^ r * d)) ^ 2) (2 ^ (c - r - 1))
        refine Int.dvd_trans (Int.dvd_trans hr ?_) h3
        refine ⟨(b : Int) ^ (2 ^ r * d) - 1, ?_⟩
        rw [Int.pow_succ, Int.pow_succ, Int.pow_zero, Int.one_mul, Int.add_mul, Int.mul_sub]; omega
    · intro he hone
      have : r = c := by omega
      subst this
      exact not_both (by omega) (up1 hone) hr

/-- what the strong test says of a base: either 1 at once, or -1 on the way, at all primes alike -/
theorem strong_cases {n b s d : Nat} (hn : Psp n) (hb : b ∈ bN) (hs : n - 1 = 2 ^ s * d) (hd : d % 2 = 1) :
    (∀ p : Nat, p ∣ n → (p : Int) ∣ (b : Int) ^ d - 1) ∨ ∃ r, ∀ p : Nat, p ∣ n → (p : Int) ∣ (b : Int) ^ (2 ^ r * d) + 1 := by
  have hn3 := hn.n3
  have en : ((n : Int) - 1).toNat = n - 1 := by omega
  have one : (1 : Int) % (n : Int) = 1 := Int.emod_eq_of_lt (by omega) (by omega)
  obtain ⟨s', d', e, hd', h⟩ := hn.strong b hb
  rw [en, hs] at e
  obtain ⟨rfl, rfl⟩ := odd_unique s s' d d' e hd hd'
  rcases h with h | ⟨r, _, h⟩
  · exact Or.inl fun p hp => Int.dvd_trans (Int.natCast_dvd_natCast.2 hp) (dvd_sub_of_mod (h.trans one.symm))
  · refine Or.inr ⟨r, fun p hp => Int.dvd_trans (Int.natCast_dvd_natCast.2 hp) ?_⟩
    refine Int.dvd_of_emod_eq_zero ?_
    rw [Int.add_emod, h, one]
    rw [Int.sub_add_cancel]; simp

/-- the same squares among the bases -/
theorem same_squares {n p q : Nat} (hn : Psp n) (hp : Pdv n p) (hq : Pdv n q) (fp : p - 1 ∣ n - 1) (fq : q - 1 ∣ n - 1)
    (rp : ∃ b ∈ bN, b ^ ((p - 1) / 2) % p ≠ 1) (rq : ∃ b ∈ bN, b ^ ((q - 1) / 2) % q ≠ 1) : ∀ b ∈ bN, (b ^ ((p - 1) / 2) % p = 1 ↔ b ^ ((q - 1) / 2) % q = 1) := by
  have hn3 := hn.n3
  have p41 := hp.ge hn
  have q41 := hq.ge hn
  obtain ⟨s, d, hs, hd⟩ := two_part (n - 1) (by omega)
  obtain ⟨a, k, ha, hk⟩ := two_part (p - 1) (by omega)
  obtain ⟨c, m, hc, hm⟩ := two_part (q - 1) (by omega)
  have P := fun b hb => base_at_prime (b := b) hn hp hb fp hs hd ha hk
  have Q := fun b hb => base_at_prime (b := b) hn hq hb fq hs hd hc hm
  have hac : a = c := by
    have h1 : a ≤ c := by
      obtain ⟨b, hb, hne⟩ := rp
      rcases strong_cases hn hb hs hd with h | ⟨r, h⟩
      · exact absurd ((P b hb).1 (h p hp.d)) hne
      · have h2 := ((P b hb).2 r (h p hp.d)).2.1 hne
        have h3 := ((Q b hb).2 r (h q hq.d)).1
        omega
    have h2 : c ≤ a := by
      obtain ⟨b, hb, hne⟩ := rq
      rcases strong_cases hn hb hs hd with h | ⟨r, h⟩
      · exact absurd ((Q b hb).1 (h q hq.d)) hne
      · have h2 := ((Q b hb).2 r (h q hq.d)).2.1 hne
        have h3 := ((P b hb).2 r (h p hp.d)).1
        omega
    omega
  intro b hb
  rcases strong_cases hn hb hs hd with h | ⟨r, h⟩
  · exact ⟨fun _ => (Q b hb).1 (h q hq.d), fun _ => (P b hb).1 (h p hp.d)⟩
  · have h1 := ((P b hb).2 r (h p hp.d)).2
    have h2 := ((Q b hb).2 r (h q hq.d)).2
    rw [← hac] at h2
    have h3 := h1.trans h2.symm
    exact ⟨fun x => Classical.byContradiction fun y => h3.2 y x, fun x => Classical.byContradiction fun y => h3.1 y x⟩
end Go.Proofs.YtcglffigbdglpaaDoor
