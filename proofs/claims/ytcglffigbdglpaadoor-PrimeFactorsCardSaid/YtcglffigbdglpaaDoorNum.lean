/- Plain number theory for layer 2: primes, Euclid's lemma, Fermat's little theorem, the order of a number, unique factors. No program is named here. -/
import Derived.Test.YtcglffigbdglpaaDoorMath
namespace Dia

/-- a prime -/
def IsP (n : Int) : Prop := 2 ≤ n ∧ ∀ d, 2 ≤ d → d < n → n % d ≠ 0

/-- what divides is not greater than the square root, or what it leaves is not -/
theorem small_div {n : Int} (h2 : 2 ≤ n) (h : ¬ IsP n) : ∃ c, 2 ≤ c ∧ c * c ≤ n ∧ n % c = 0 := by
  have : ∃ d, 2 ≤ d ∧ d < n ∧ n % d = 0 := by
    refine Classical.byContradiction fun hc => h ⟨h2, fun d h1 h2 h3 => hc ⟨d, h1, h2, h3⟩⟩
  obtain ⟨d, d2, dn, hd⟩ := this
  have e := Int.mul_ediv_add_emod n d
  rw [hd, Int.add_zero] at e
  have q1 : 1 < n / d := by
    refine Classical.byContradiction fun hc => ?_
    have : d * (n / d) ≤ d * 1 := Int.mul_le_mul_of_nonneg_left (by omega) (by omega)
    omega
  by_cases hs : d ≤ n / d
  · exact ⟨d, d2, by have := Int.mul_le_mul_of_nonneg_left hs (show 0 ≤ d by omega); omega, hd⟩
  · refine ⟨n / d, by omega, ?_, ?_⟩
    · have := Int.mul_le_mul_of_nonneg_right (show n / d ≤ d by omega) (show 0 ≤ n / d by omega); omega
    · have : n = n / d * d := by rw [Int.mul_comm]; omega
      exact Int.emod_eq_zero_of_dvd ⟨d, this⟩
/-- the least of them -/
theorem least_div {n : Int} (h2 : 2 ≤ n) (h : ¬ IsP n) : ∃ c, 2 ≤ c ∧ c * c ≤ n ∧ n % c = 0 ∧ ∀ d, 2 ≤ d → d < c → n % d ≠ 0 := by
  obtain ⟨c, c2, cc, hc⟩ := small_div h2 h
  obtain ⟨k, rfl⟩ := Int.eq_ofNat_of_zero_le (show 0 ≤ c by omega)
  clear h
  induction k using Nat.strongRecOn with
  | _ k ih =>
    by_cases hx : ∃ d, 2 ≤ d ∧ d < (k : Int) ∧ n % d = 0
    · obtain ⟨d, d2, dk, hd⟩ := hx
      obtain ⟨j, rfl⟩ := Int.eq_ofNat_of_zero_le (show 0 ≤ d by omega)
      have : (j : Int) * j ≤ k * k := Int.mul_le_mul (by omega) (by omega) (by omega) (by omega)
      exact ih j (by omega) d2 (by omega) hd
    · exact ⟨k, c2, cc, hc, fun d d2 dk hd => hx ⟨d, d2, dk, hd⟩⟩

/-- Euclid's algorithm, backwards -/
theorem bezout : ∀ (m n : Nat), ∃ x y : Int, (Nat.gcd m n : Int) = m * x + n * y := by
  intro m
  induction m using Nat.strongRecOn with
  | _ m ih =>
    intro n
    by_cases h : m = 0
    · subst h; exact ⟨0, 1, by simp⟩
    · obtain ⟨x, y, e⟩ := ih (n % m) (Nat.mod_lt _ (by omega)) m
      refine ⟨y - (n / m : Nat) * x, x, ?_⟩
      rw [Nat.gcd_rec, e]
      have hd : (n : Int) = m * (n / m : Nat) + (n % m : Nat) := by
        rw [← Int.natCast_mul]; have := Nat.div_add_mod n m; omega
      generalize ((n / m : Nat) : Int) = q at *
      generalize ((n % m : Nat) : Int) = r at *
      rw [hd, Int.mul_sub, Int.add_mul, Int.mul_assoc]
      omega
theorem bezout_int (a n : Int) : ∃ x y : Int, (Int.gcd a n : Int) = a * x + n * y := by
  obtain ⟨x, y, e⟩ := bezout a.natAbs n.natAbs
  have ha : ∃ s : Int, (a.natAbs : Int) = a * s := by
    rcases Int.natAbs_eq a with h | h
    · exact ⟨1, by omega⟩
    · exact ⟨-1, by omega⟩
  have hn : ∃ s : Int, (n.natAbs : Int) = n * s := by
    rcases Int.natAbs_eq n with h | h
    · exact ⟨1, by omega⟩
    · exact ⟨-1, by omega⟩
  obtain ⟨s, hs⟩ := ha
  obtain ⟨t, ht⟩ := hn
  refine ⟨s * x, t * y, ?_⟩
  show ((Nat.gcd a.natAbs n.natAbs : Nat) : Int) = _
  rw [e, hs, ht, Int.mul_assoc, Int.mul_assoc]
/-- what divides a product and has no divisor with the one divides the other -/
theorem coprime_dvd {p a b : Int} (h : Int.gcd a p = 1) (hd : p ∣ a * b) : p ∣ b := by
  obtain ⟨x, y, e⟩ := bezout_int a p
  rw [h] at e
  obtain ⟨k, hk⟩ := hd
  refine ⟨k * x + y * b, ?_⟩
  have e1 : b = (a * x + p * y) * b := by rw [← e]; simp
  rw [Int.add_mul, Int.mul_assoc, Int.mul_comm x b, ← Int.mul_assoc, hk] at e1
  rw [Int.mul_add, ← Int.mul_assoc, ← Int.mul_assoc]; omega

/-- Euclid: a prime that divides a product divides one of the two -/
theorem IsP.coprime {p a : Int} (hp : IsP p) (ha : ¬ p ∣ a) : Int.gcd a p = 1 := by
  have hd := Int.gcd_dvd_right a p
  have h0 := gcd_le (b := a) (show 1 ≤ p by have := hp.1; omega)
  rw [Int.gcd_comm] at h0
  by_cases h1 : (Int.gcd a p : Int) = 1
  · omega
  · by_cases h2 : (Int.gcd a p : Int) = p
    · exact absurd (h2 ▸ Int.gcd_dvd_left a p) ha
    · exact absurd (Int.emod_eq_zero_of_dvd hd) (hp.2 _ (by omega) (by omega))
theorem IsP.dvd_mul {p a b : Int} (hp : IsP p) (h : p ∣ a * b) : p ∣ a ∨ p ∣ b := by
  by_cases ha : p ∣ a
  · exact Or.inl ha
  · exact Or.inr (coprime_dvd (hp.coprime ha) h)

/-- the document's answer: is it a prime, up to MaxMod -/
noncomputable def primeB (n : Int) : Bool := @decide (IsP n ∧ n ≤ 4611686018427387904) (Classical.propDecidable _)
theorem primeB_yes {n : Int} (h : IsP n) (h2 : n ≤ 4611686018427387904) : primeB n = true := by unfold primeB; exact @decide_eq_true _ (Classical.propDecidable _) ⟨h, h2⟩
theorem primeB_no {n : Int} (h : ¬ (IsP n ∧ n ≤ 4611686018427387904)) : primeB n = false := by unfold primeB; exact @decide_eq_false _ (Classical.propDecidable _) h

/-! an inverse of what a prime does not divide -/
theorem inverse {a n : Int} (h : Int.gcd a n = 1) : ∃ b, (a * b) % n = 1 % n := by
  obtain ⟨x, y, e⟩ := bezout_int a n
  rw [h] at e
  refine ⟨x, ?_⟩
  have : a * x = 1 + n * (-y) := by rw [Int.mul_neg]; omega
  rw [this, Int.add_mul_emod_self_left]

/-! products of lists, in any order -/
def prod : List Int → Int
  | [] => 1
  | x :: l => x * prod l
theorem prod_perm {l m : List Int} (h : l.Perm m) : prod l = prod m := by
  induction h with
  | nil => rfl
  | cons x _ ih => simp [prod, ih]
  | swap x y l => simp only [prod]; rw [← Int.mul_assoc, ← Int.mul_assoc, Int.mul_comm x]
  | trans _ _ a b => exact a.trans b
theorem prod_map_mod (a p : Int) : ∀ l : List Int, prod (l.map fun x => (a * x) % p) % p = (a ^ l.length * prod l) % p
  | [] => by simp [prod]
  | x :: l => by
    simp only [List.map_cons, prod, List.length_cons]
    rw [← mul_emod_r, prod_map_mod a p l, mul_emod_r, mul_emod_l, Int.pow_succ]
    congr 1
    simp only [Int.mul_assoc, Int.mul_left_comm, Int.mul_comm]
theorem IsP.dvd_prod {p : Int} (hp : IsP p) : ∀ l : List Int, p ∣ prod l → ∃ x ∈ l, p ∣ x
  | [], h => by
    have := Int.le_of_dvd (by simp [prod]) h
    have := hp.1
    simp [prod] at *; omega
  | x :: l, h => by
    rcases hp.dvd_mul h with h | h
    · exact ⟨x, by simp, h⟩
    · obtain ⟨y, hy, hd⟩ := hp.dvd_prod l h
      exact ⟨y, by simp [hy], hd⟩

theorem dvd_sub_of_mod {a b p : Int} (h : a % p = b % p) : p ∣ a - b := Int.dvd_of_emod_eq_zero (by rw [Int.sub_emod, h]; simp)
theorem mod_of_dvd_sub {a b p : Int} (h : p ∣ a - b) : a % p = b % p := by
  obtain ⟨k, hk⟩ := h
  have : a = b + p * k := by omega
  rw [this, Int.add_mul_emod_self_left]

/-- the numbers from 1 to m -/
def upTo (m : Nat) : List Int := (List.range m).map fun i : Nat => (i : Int) + 1
theorem mem_upTo {m : Nat} {x : Int} : x ∈ upTo m ↔ 1 ≤ x ∧ x ≤ m := by
  unfold upTo
  simp only [List.mem_map, List.mem_range]
  constructor
  · rintro ⟨i, hi, rfl⟩; omega
  · rintro ⟨h1, h2⟩; exact ⟨(x - 1).toNat, by omega, by omega⟩
theorem nodup_upTo (m : Nat) : (upTo m).Nodup := by
  unfold upTo
  unfold List.Nodup
  rw [List.pairwise_map]
  exact (List.nodup_range (n := m)).imp fun h e => h (by omega)

/-- Fermat's little theorem -/
theorem IsP.fermat {p a : Int} (hp : IsP p) (ha : ¬ p ∣ a) : (a ^ (p - 1).toNat) % p = 1 := by
  have p2 := hp.1
  have hm : ((p - 1).toNat : Int) = p - 1 := by omega
  obtain ⟨b, hb⟩ := inverse (hp.coprime ha)
  have inj : ∀ x ∈ upTo (p - 1).toNat, ∀ y ∈ upTo (p - 1).toNat, (a * x) % p = (a * y) % p → x = y := by
    intro x hx y hy h
    rw [mem_upTo] at hx hy
    have hd := dvd_sub_of_mod h
    rw [← Int.mul_sub] at hd
    rcases hp.dvd_mul hd with h | h
    · exact absurd h ha
    · obtain ⟨k, hk⟩ := h
      have : k = 0 := by
        refine Classical.byContradiction fun hc => ?_
        rcases (by omega : k ≤ -1 ∨ 1 ≤ k) with hk1 | hk1
        · have : p * k ≤ p * (-1) := Int.mul_le_mul_of_nonneg_left hk1 (by omega); omega
        · have : p * 1 ≤ p * k := Int.mul_le_mul_of_nonneg_left hk1 (by omega); omega
      subst this; omega
  have hperm : ((upTo (p - 1).toNat).map fun x => (a * x) % p).Perm (upTo (p - 1).toNat) := by
    refine (List.perm_ext_iff_of_nodup ?_ (nodup_upTo _)).2 fun y => ?_
    · unfold List.Nodup
      rw [List.pairwise_map]
      refine List.Pairwise.imp_of_mem (fun {x y} hx hy h e => h (inj x hx y hy e)) (nodup_upTo _)
    · rw [mem_upTo, hm]
      simp only [List.mem_map]
      constructor
      · rintro ⟨x, hx, rfl⟩
        rw [mem_upTo, hm] at hx
        have h0 := Int.emod_nonneg (a * x) (by omega : p ≠ 0)
        have h1 := Int.emod_lt_of_pos (a * x) (by omega : 0 < p)
        refine ⟨?_, by omega⟩
        refine Classical.byContradiction fun hc => ?_
        have hz : (a * x) % p = 0 := by omega
        rcases hp.dvd_mul (Int.dvd_of_emod_eq_zero hz) with h | h
        · exact ha h
        · have := Int.le_of_dvd (by omega) h; omega
      · rintro ⟨y1, y2⟩
        have h0 := Int.emod_nonneg (b * y) (by omega : p ≠ 0)
        have h1 := Int.emod_lt_of_pos (b * y) (by omega : 0 < p)
        have key : (a * ((b * y) % p)) % p = y := by
          rw [mul_emod_r, ← Int.mul_assoc, ← mul_emod_l, hb, mul_emod_l, Int.one_mul, Int.emod_eq_of_lt (by omega) (by omega)]
        refine ⟨(b * y) % p, ?_, key⟩
        rw [mem_upTo, hm]
        refine ⟨?_, by omega⟩
        refine Classical.byContradiction fun hc => ?_
        have hz : (b * y) % p = 0 := by omega
        rw [hz, Int.mul_zero, Int.zero_emod] at key
        omega
  have e := prod_map_mod a p (upTo (p - 1).toNat)
  rw [prod_perm hperm] at e
  have hl : (upTo (p - 1).toNat).length = (p - 1).toNat := by simp [upTo]
  rw [hl] at e
  have hd := dvd_sub_of_mod e.symm
  have e2 : a ^ (p - 1).toNat * prod (upTo (p - 1).toNat) - prod (upTo (p - 1).toNat) = (a ^ (p - 1).toNat - 1) * prod (upTo (p - 1).toNat) := by rw [Int.sub_mul, Int.one_mul]
  rw [e2] at hd
  rcases hp.dvd_mul hd with h | h
  · rw [mod_of_dvd_sub h]; exact Int.emod_eq_of_lt (by omega) (by omega)
  · obtain ⟨x, hx, hd⟩ := hp.dvd_prod _ h
    rw [mem_upTo, hm] at hx
    have := Int.le_of_dvd (by omega) hd
    omega

/-- a square that leaves 1 is one of 1 or of -1 -/
theorem IsP.sqrt_one {p x : Int} (hp : IsP p) (h : (x * x) % p = 1) : x % p = 1 ∨ x % p = p - 1 := by
  have p2 := hp.1
  have h1 : (1 : Int) % p = 1 := Int.emod_eq_of_lt (by omega) (by omega)
  have hd := dvd_sub_of_mod (h.trans h1.symm)
  have e : x * x - 1 = (x - 1) * (x + 1) := by rw [Int.sub_mul, Int.mul_add]; omega
  rw [e] at hd
  rcases hp.dvd_mul hd with h | h
  · exact Or.inl (by rw [mod_of_dvd_sub h, h1])
  · right
    obtain ⟨k, hk⟩ := h
    have : x = (p - 1) + p * (k - 1) := by rw [Int.mul_sub]; omega
    rw [this, Int.add_mul_emod_self_left]
    exact Int.emod_eq_of_lt (by omega) (by omega)

/-- of a prime n whose n - 1 is 2^s times d, the power of d leaves 1, or one of its squares leaves n - 1 -/
theorem IsP.strong {p a : Int} {s d : Nat} (hp : IsP p) (ha : ¬ p ∣ a) (h : (p - 1).toNat = 2 ^ s * d) : (a ^ d) % p = 1 ∨ ∃ r, r < s ∧ (a ^ (2 ^ r * d)) % p = p - 1 := by
  have hf := hp.fermat ha
  rw [h] at hf
  clear h
  induction s with
  | zero => left; simpa using hf
  | succ s ih =>
    have e : a ^ (2 ^ (s + 1) * d) = a ^ (2 ^ s * d) * a ^ (2 ^ s * d) := by rw [← Int.pow_add]; congr 1; rw [Nat.pow_succ, Nat.mul_comm (2 ^ s) 2, Nat.mul_assoc, Nat.two_mul]
    rw [e] at hf
    rcases hp.sqrt_one hf with h | h
    · rcases ih h with h | ⟨r, hr, h⟩
      · exact Or.inl h
      · exact Or.inr ⟨r, by omega, h⟩
    · exact Or.inr ⟨s, by omega, h⟩

/-! the order of a number -/
/-- e is the order of a by n, or 0 where there is none -/
def IsOrd (a n e : Int) : Prop := (1 ≤ e ∧ (a ^ e.toNat) % n = 1 % n ∧ ∀ k : Nat, 1 ≤ k → (k : Int) < e → (a ^ k) % n ≠ 1 % n) ∨ (e = 0 ∧ ∀ k : Nat, 1 ≤ k → (a ^ k) % n ≠ 1 % n)
theorem IsOrd.unique {a n e f : Int} (h : IsOrd a n e) (k : IsOrd a n f) : e = f := by
  rcases h with ⟨h1, h2, h3⟩ | ⟨h1, h2⟩ <;> rcases k with ⟨k1, k2, k3⟩ | ⟨k1, k2⟩
  · rcases Int.lt_trichotomy e f with h | h | h
    · exact absurd h2 (k3 e.toNat (by omega) (by omega))
    · exact h
    · exact absurd k2 (h3 f.toNat (by omega) (by omega))
  · exact absurd h2 (k2 _ (by omega))
  · exact absurd k2 (h2 _ (by omega))
  · omega
/-- one of n + 1 numbers below n stands twice -/
theorem pigeon : ∀ (n : Nat) (f : Nat → Nat), (∀ i, i ≤ n → f i < n) → ∃ i j, i < j ∧ j ≤ n ∧ f i = f j
  | 0, f, h => absurd (h 0 (by omega)) (by omega)
  | n + 1, f, h => by
    by_cases hx : ∃ i, i ≤ n ∧ f i = f (n + 1)
    · obtain ⟨i, hi, e⟩ := hx
      exact ⟨i, n + 1, by omega, by omega, e⟩
    · have hne : ∀ i, i ≤ n → f i ≠ f (n + 1) := fun i hi e => hx ⟨i, hi, e⟩
      have hl := h (n + 1) (by omega)
      obtain ⟨i, j, hij, hj, e⟩ := pigeon n (fun i => if f i < f (n + 1) then f i else f i - 1) (fun i hi => by
        have := h i (by omega); have := hne i hi
        split <;> omega)
      refine ⟨i, j, hij, by omega, ?_⟩
      have h1 := hne i (by omega); have h2 := hne j (by omega)
      split at e <;> split at e <;> omega
/-- where a power leaves 1 at all, one of the first n does -/
theorem order_le {a n : Int} (hn : 1 ≤ n) {k : Nat} (hk : 1 ≤ k) (h : (a ^ k) % n = 1 % n) : ∃ j : Nat, 1 ≤ j ∧ (j : Int) ≤ n ∧ (a ^ j) % n = 1 % n := by
  induction k using Nat.strongRecOn with
  | _ k ih =>
    by_cases hle : (k : Int) ≤ n
    · exact ⟨k, hk, hle, h⟩
    · obtain ⟨i, j, hij, hj, e⟩ := pigeon n.toNat (fun i => ((a ^ i) % n).toNat) (fun i _ => by
        have h0 := Int.emod_nonneg (a ^ i) (by omega : n ≠ 0)
        have h1 := Int.emod_lt_of_pos (a ^ i) (by omega : 0 < n)
        show ((a ^ i) % n).toNat < n.toNat; omega)
      have e' : (a ^ i) % n = (a ^ j) % n := by
        have h0 := Int.emod_nonneg (a ^ i) (by omega : n ≠ 0)
        have h1 := Int.emod_nonneg (a ^ j) (by omega : n ≠ 0)
        omega
      have e2 : (a ^ (k - i) * a ^ i) % n = (a ^ (k - i) * a ^ j) % n := by rw [← mul_emod_r, e', mul_emod_r]
      rw [← Int.pow_add, ← Int.pow_add, show k - i + i = k from by omega, show k - i + j = k + (j - i) from by omega, Int.pow_add, ← mul_emod_l, h, mul_emod_l, Int.one_mul] at e2
      exact ih (j - i) (by omega) (by omega) e2.symm
/-- the order divides whatever power leaves 1 -/
theorem IsOrd.dvd {a n e : Int} (h : IsOrd a n e) {k : Nat} (hk : 1 ≤ k) (hp : (a ^ k) % n = 1 % n) : 1 ≤ e ∧ e ∣ (k : Int) := by
  rcases h with ⟨h1, h2, h3⟩ | ⟨h1, h2⟩
  · refine ⟨h1, ?_⟩
    have hm := Nat.div_add_mod k e.toNat
    have hr : (a ^ (k % e.toNat)) % n = 1 % n := by
      have e1 : a ^ k = (a ^ e.toNat) ^ (k / e.toNat) * a ^ (k % e.toNat) := by rw [← Int.pow_mul, ← Int.pow_add, hm]
      rw [e1, ← mul_emod_l, ← pow_emod, h2, pow_emod, Int.one_pow, mul_emod_l, Int.one_mul] at hp
      exact hp
    have hlt := Nat.mod_lt k (show 0 < e.toNat by omega)
    have h0 : k % e.toNat = 0 := by
      refine Classical.byContradiction fun hc => ?_
      exact h3 (k % e.toNat) (by omega) (by omega) hr
    refine ⟨((k / e.toNat : Nat) : Int), ?_⟩
    have : (e.toNat : Int) * ((k / e.toNat : Nat) : Int) = (k : Int) := by rw [← Int.natCast_mul]; omega
    rw [← this]; congr 1; omega
  · exact absurd hp (h2 k hk)

/-! factors -/
/-- the product of primes, each as often as it divides -/
def fprod : List (Int × Nat) → Int
  | [] => 1
  | x :: l => x.1 ^ x.2 * fprod l
theorem fprod_append : ∀ l m : List (Int × Nat), fprod (l ++ m) = fprod l * fprod m
  | [], m => by simp [fprod]
  | x :: l, m => by simp only [List.cons_append, fprod]; rw [fprod_append l m, Int.mul_assoc]
structure IsFac (n : Int) (l : List (Int × Nat)) : Prop where
  prime : ∀ x ∈ l, IsP x.1
  pos : ∀ x ∈ l, 1 ≤ x.2
  up : l.Pairwise fun x y => x.1 < y.1
  eq : fprod l = n
theorem IsP.dvd_pow {p a : Int} (hp : IsP p) : ∀ n : Nat, p ∣ a ^ n → p ∣ a
  | 0, h => by
    have := Int.le_of_dvd (by simp) h
    have := hp.1
    simp at *; omega
  | n + 1, h => by
    rw [Int.pow_succ] at h
    rcases hp.dvd_mul h with h | h
    · exact hp.dvd_pow n h
    · exact h
theorem IsP.eq_of_dvd {p q : Int} (hp : IsP p) (hq : IsP q) (h : p ∣ q) : p = q := by
  have := Int.le_of_dvd (by have := hq.1; omega) h
  refine Classical.byContradiction fun hc => ?_
  exact hq.2 p hp.1 (by omega) (Int.emod_eq_zero_of_dvd h)
theorem IsP.mem_of_dvd {p : Int} (hp : IsP p) : ∀ l : List (Int × Nat), (∀ x ∈ l, IsP x.1) → p ∣ fprod l → ∃ x ∈ l, x.1 = p
  | [], _, h => by
    have := Int.le_of_dvd (by simp [fprod]) h
    have := hp.1
    simp [fprod] at *; omega
  | x :: l, hl, h => by
    rcases hp.dvd_mul h with h | h
    · exact ⟨x, by simp, (hp.eq_of_dvd (hl x (by simp)) (hp.dvd_pow _ h)).symm⟩
    · obtain ⟨y, hy, e⟩ := hp.mem_of_dvd l (fun y hy => hl y (by simp [hy])) h
      exact ⟨y, by simp [hy], e⟩
theorem fprod_pos : ∀ l : List (Int × Nat), (∀ x ∈ l, IsP x.1) → 1 ≤ fprod l
  | [], _ => by simp [fprod]
  | x :: l, h => by
    have h1 := (h x (by simp)).1
    have h2 : 0 < x.1 ^ x.2 := Int.pow_pos (by omega)
    have h3 := fprod_pos l fun y hy => h y (by simp [hy])
    have : 1 * 1 ≤ x.1 ^ x.2 * fprod l := Int.mul_le_mul (by omega) h3 (by omega) (by omega)
    simp only [fprod]; omega
theorem dvd_head {x : Int × Nat} {l : List (Int × Nat)} (h : 1 ≤ x.2) : x.1 ∣ fprod (x :: l) := by
  obtain ⟨k, hk⟩ : ∃ k, x.2 = k + 1 := ⟨x.2 - 1, by omega⟩
  refine ⟨x.1 ^ k * fprod l, ?_⟩
  simp only [fprod]
  rw [hk, Int.pow_succ]
  simp only [Int.mul_left_comm, Int.mul_comm]
/-- there is one way to write a number as such a product -/
theorem IsFac.unique : ∀ {n : Int} {l m : List (Int × Nat)}, IsFac n l → IsFac n m → l = m
  | n, [], [], _, _ => rfl
  | n, [], y :: m, h, k => by
    have hd := dvd_head (l := m) (k.pos y (by simp))
    rw [k.eq, ← h.eq] at hd
    have := Int.le_of_dvd (by simp [fprod]) hd
    have := (k.prime y (by simp)).1
    simp [fprod] at *; omega
  | n, x :: l, [], h, k => by
    have hd := dvd_head (l := l) (h.pos x (by simp))
    rw [h.eq, ← k.eq] at hd
    have := Int.le_of_dvd (by simp [fprod]) hd
    have := (h.prime x (by simp)).1
    simp [fprod] at *; omega
  | n, x :: l, y :: m, h, k => by
    have hx := h.prime x (by simp)
    have hy := k.prime y (by simp)
    have e : x.1 = y.1 := by
      have d1 := dvd_head (l := l) (h.pos x (by simp))
      rw [h.eq, ← k.eq] at d1
      obtain ⟨z, hz, e1⟩ := hx.mem_of_dvd _ k.prime d1
      have d2 := dvd_head (l := m) (k.pos y (by simp))
      rw [k.eq, ← h.eq] at d2
      obtain ⟨u, hu, e2⟩ := hy.mem_of_dvd _ h.prime d2
      have le1 : y.1 ≤ x.1 := by
        rcases List.mem_cons.1 hz with rfl | hz
        · omega
        · have := (List.pairwise_cons.1 k.up).1 z hz; omega
      have le2 : x.1 ≤ y.1 := by
        rcases List.mem_cons.1 hu with rfl | hu
        · omega
        · have := (List.pairwise_cons.1 h.up).1 u hu; omega
      omega
    have nl : ¬ x.1 ∣ fprod l := fun hd => by
      obtain ⟨z, hz, e1⟩ := hx.mem_of_dvd _ (fun z hz => h.prime z (by simp [hz])) hd
      have := (List.pairwise_cons.1 h.up).1 z hz; omega
    have nm : ¬ x.1 ∣ fprod m := fun hd => by
      obtain ⟨z, hz, e1⟩ := hx.mem_of_dvd _ (fun z hz => k.prime z (by simp [hz])) hd
      have := (List.pairwise_cons.1 k.up).1 z hz; omega
    have hE : x.1 ^ x.2 * fprod l = x.1 ^ y.2 * fprod m := by
      have a := h.eq; have b := k.eq
      simp only [fprod] at a b
      rw [a, e, b]
    have x0 : x.1 ≠ 0 := by have := hx.1; omega
    have he : x.2 = y.2 := by
      rcases Nat.lt_trichotomy x.2 y.2 with hlt | heq | hlt
      · exfalso
        obtain ⟨j, hj⟩ : ∃ j, y.2 = x.2 + (j + 1) := ⟨y.2 - x.2 - 1, by omega⟩
        rw [hj, Int.pow_add, Int.mul_assoc] at hE
        have := Int.eq_of_mul_eq_mul_left (Int.pow_ne_zero x0) hE
        exact nl ⟨x.1 ^ j * fprod m, by rw [this, Int.pow_succ]; simp only [Int.mul_left_comm, Int.mul_comm]⟩
      · exact heq
      · exfalso
        obtain ⟨j, hj⟩ : ∃ j, x.2 = y.2 + (j + 1) := ⟨x.2 - y.2 - 1, by omega⟩
        rw [hj, Int.pow_add, Int.mul_assoc] at hE
        have := Int.eq_of_mul_eq_mul_left (Int.pow_ne_zero x0) hE
        exact nm ⟨x.1 ^ j * fprod l, by rw [← this, Int.pow_succ]; simp only [Int.mul_left_comm, Int.mul_comm]⟩
    rw [he] at hE
    have ht := Int.eq_of_mul_eq_mul_left (Int.pow_ne_zero x0) hE
    have ih := IsFac.unique (n := fprod l) (l := l) (m := m) ⟨fun z hz => h.prime z (by simp [hz]), fun z hz => h.pos z (by simp [hz]), (List.pairwise_cons.1 h.up).2, rfl⟩ ⟨fun z hz => k.prime z (by simp [hz]), fun z hz => k.pos z (by simp [hz]), (List.pairwise_cons.1 k.up).2, ht.symm⟩
    rw [ih, Prod.ext e he]

/-! by trying all divisors -/
structure FacInv (n0 n d : Int) (l : List (Int × Nat)) : Prop where
  n1 : 1 ≤ n
  d2 : 2 ≤ d
  le : n ≤ n0
  eq : fprod l * n = n0
  prime : ∀ x ∈ l, IsP x.1 ∧ x.1 < d
  pos : ∀ x ∈ l, 1 ≤ x.2
  up : l.Pairwise fun x y => x.1 < y.1
  no : ∀ c, 2 ≤ c → c < d → n % c ≠ 0
theorem FacInv.start {n : Int} (h : 1 ≤ n) : FacInv n n 2 [] :=
  ⟨h, by omega, by omega, by simp [fprod], by simp, by simp, List.Pairwise.nil, fun c h1 h2 => by omega⟩
theorem FacInv.skip {n0 n d : Int} {l : List (Int × Nat)} (h : FacInv n0 n d l) (hd : n % d ≠ 0) : FacInv n0 n (d + 1) l :=
  ⟨h.n1, by have := h.d2; omega, h.le, h.eq, fun x hx => ⟨(h.prime x hx).1, by have := (h.prime x hx).2; omega⟩, h.pos, h.up, fun c h1 h2 => by
    by_cases e : c = d
    · subst e; exact hd
    · exact h.no c h1 (by omega)⟩
/-- the inner loop: how often d divides -/
structure DivInv (n d m : Int) (e : Nat) : Prop where
  m1 : 1 ≤ m
  le : m ≤ n
  eq : m * d ^ e = n
theorem DivInv.start {n d : Int} (h : 1 ≤ n) : DivInv n d n 0 := ⟨h, by omega, by simp⟩
theorem DivInv.step {n d m : Int} {e : Nat} (h : DivInv n d m e) (d2 : 2 ≤ d) (hd : m % d = 0) : DivInv n d (m / d) (e + 1) ∧ m / d < m := by
  have hm := Int.mul_ediv_add_emod m d
  rw [hd, Int.add_zero] at hm
  have m1 := h.m1
  have hq : 1 ≤ m / d := by
    refine Classical.byContradiction fun hc => ?_
    have : d * (m / d) ≤ d * 0 := Int.mul_le_mul_of_nonneg_left (by omega) (by omega)
    omega
  have hl : m / d < m := by
    have : 2 * (m / d) ≤ d * (m / d) := Int.mul_le_mul_of_nonneg_right d2 (by omega)
    omega
  refine ⟨⟨hq, by have := h.le; omega, ?_⟩, hl⟩
  rw [← h.eq, Int.pow_succ, Int.mul_comm (d ^ e) d, ← Int.mul_assoc, Int.mul_comm (m / d) d, hm]
/-- there are never more than as many as fit -/
theorem DivInv.bound {n d m : Int} {e : Nat} (h : DivInv n d m e) (d2 : 2 ≤ d) : (e : Int) < n := by
  have h1 : (e : Int) < d ^ e := by
    clear h
    induction e with
    | zero => simp
    | succ e ih =>
      rw [Int.pow_succ]
      have h3 : d ^ e * 2 ≤ d ^ e * d := Int.mul_le_mul_of_nonneg_left d2 (by omega)
      omega
  have h2 : 1 * d ^ e ≤ m * d ^ e := Int.mul_le_mul_of_nonneg_right h.m1 (by omega)
  have := h.eq
  omega
theorem FacInv.prime_of {n0 n d : Int} {l : List (Int × Nat)} (h : FacInv n0 n d l) (hd : n % d = 0) : IsP d := by
  refine ⟨h.d2, fun c c2 cd hc => h.no c c2 cd ?_⟩
  exact Int.emod_eq_zero_of_dvd (Int.dvd_trans (Int.dvd_of_emod_eq_zero hc) (Int.dvd_of_emod_eq_zero hd))
theorem FacInv.take {n0 n d m : Int} {l : List (Int × Nat)} {e : Nat} (h : FacInv n0 n d l) (hd : n % d = 0) (k : DivInv n d m e) (he : 1 ≤ e) (hm : m % d ≠ 0) : FacInv n0 m (d + 1) (l ++ [(d, e)]) := by
  have hp := h.prime_of hd
  have kl := k.le
  have hl := h.le
  refine ⟨k.m1, by have := h.d2; omega, by omega, ?_, ?_, ?_, ?_, ?_⟩
  · rw [fprod_append, ← h.eq, ← k.eq]
    simp only [fprod, Int.mul_one]
    rw [Int.mul_assoc, Int.mul_comm (d ^ e)]
  · intro x hx
    rcases List.mem_append.1 hx with hx | hx
    · exact ⟨(h.prime x hx).1, by have := (h.prime x hx).2; omega⟩
    · simp at hx; subst hx; exact ⟨hp, by show d < d + 1; omega⟩
  · intro x hx
    rcases List.mem_append.1 hx with hx | hx
    · exact h.pos x hx
    · simp at hx; subst hx; exact he
  · rw [List.pairwise_append]
    refine ⟨h.up, by simp, fun x hx y hy => ?_⟩
    simp at hy; subst hy
    exact (h.prime x hx).2
  · intro c c2 cd hc
    by_cases e1 : c = d
    · subst e1; exact hm hc
    · refine h.no c c2 (by omega) ?_
      have : c ∣ m * d ^ e := Int.dvd_trans (Int.dvd_of_emod_eq_zero hc) (Int.dvd_mul_right _ _)
      rw [k.eq] at this
      exact Int.emod_eq_zero_of_dvd this
theorem FacInv.rest_prime {n0 n d : Int} {l : List (Int × Nat)} (h : FacInv n0 n d l) (hd : n / d < d) (h1 : 1 < n) : IsP n := by
  refine Classical.byContradiction fun hc => ?_
  obtain ⟨c, c2, cc, hc⟩ := small_div (by omega) hc
  by_cases hcd : c < d
  · exact h.no c c2 hcd hc
  · have hm := Int.mul_ediv_add_emod n d
    have d2 := h.d2
    have r1 := Int.emod_lt_of_pos n (show 0 < d by omega)
    have a1 : d * (n / d) ≤ d * (d - 1) := Int.mul_le_mul_of_nonneg_left (by omega) (by omega)
    have a2 : d * d ≤ c * c := Int.mul_le_mul (by omega) (by omega) (by omega) (by omega)
    rw [Int.mul_sub] at a1
    omega
theorem FacInv.last {n0 n d : Int} {l : List (Int × Nat)} (h : FacInv n0 n d l) (hd : n / d < d) (h1 : 1 < n) : IsFac n0 (l ++ [(n, 1)]) := by
  have hp := h.rest_prime hd h1
  refine ⟨?_, ?_, ?_, ?_⟩
  · intro x hx
    rcases List.mem_append.1 hx with hx | hx
    · exact (h.prime x hx).1
    · simp at hx; subst hx; exact hp
  · intro x hx
    rcases List.mem_append.1 hx with hx | hx
    · exact h.pos x hx
    · simp at hx; subst hx; exact Nat.le_refl 1
  · rw [List.pairwise_append]
    refine ⟨h.up, by simp, fun x hx y hy => ?_⟩
    simp at hy; subst hy
    have hx2 := (h.prime x hx).2
    show x.1 < n
    refine Classical.byContradiction fun hc => ?_
    exact h.no n (by omega) (by omega) (by simp)
  · rw [fprod_append, ← h.eq]; simp only [fprod, Int.mul_one]; rw [Int.pow_succ, Int.pow_zero, Int.one_mul]
theorem FacInv.none {n0 n d : Int} {l : List (Int × Nat)} (h : FacInv n0 n d l) (h1 : ¬ 1 < n) : IsFac n0 l := by
  have : n = 1 := by have := h.n1; omega
  subst this
  exact ⟨fun x hx => (h.prime x hx).1, h.pos, h.up, by rw [← h.eq, Int.mul_one]⟩
/-- no number has more primes than bits -/
theorem fprod_len : ∀ l : List (Int × Nat), (∀ x ∈ l, IsP x.1) → (∀ x ∈ l, 1 ≤ x.2) → (2 : Int) ^ l.length ≤ fprod l
  | [], _, _ => by simp [fprod]
  | x :: l, h, k => by
    have ih := fprod_len l (fun y hy => h y (by simp [hy])) fun y hy => k y (by simp [hy])
    have hx := (h x (by simp)).1
    have hk := k x (by simp)
    obtain ⟨j, hj⟩ : ∃ j, x.2 = j + 1 := ⟨x.2 - 1, by omega⟩
    have h2 : (2 : Int) ≤ x.1 ^ x.2 := by
      have p1 : 0 < x.1 ^ j := Int.pow_pos (by omega)
      rw [hj, Int.pow_succ]
      have : 1 * x.1 ≤ x.1 ^ j * x.1 := Int.mul_le_mul_of_nonneg_right (by omega) (by omega)
      omega
    have h0 : (0 : Int) ≤ 2 ^ l.length := Int.le_of_lt (Int.pow_pos (by omega))
    have : 2 * 2 ^ l.length ≤ x.1 ^ x.2 * fprod l := Int.mul_le_mul h2 ih h0 (by omega)
    simp only [List.length_cons, fprod]
    rw [Int.pow_succ]; omega

/-- the document's order, root, factors -/
noncomputable def ordS (a n : Int) : Int := if 1 ≤ n ∧ n ≤ 1099511627776 then Classical.epsilon (IsOrd a n) else 0
theorem ordS_eq {a n e : Int} (h1 : 1 ≤ n) (h2 : n ≤ 1099511627776) (h : IsOrd a n e) : ordS a n = e := by
  unfold ordS; rw [if_pos ⟨h1, h2⟩]
  exact (Classical.epsilon_spec (p := IsOrd a n) ⟨e, h⟩).unique h
theorem ordS_no {a n : Int} (h : n < 1 ∨ 1099511627776 < n) : ordS a n = 0 := if_neg (by omega)
def IsRoot (p g : Int) : Prop := (1 ≤ g ∧ g < p ∧ ordS g p = p - 1 ∧ ∀ k, 1 ≤ k → k < g → ordS k p ≠ p - 1) ∨ (g = 0 ∧ ∀ k, 1 ≤ k → k < p → ordS k p ≠ p - 1)
theorem IsRoot.unique {p g h : Int} (a : IsRoot p g) (b : IsRoot p h) : g = h := by
  rcases a with ⟨a1, a2, a3, a4⟩ | ⟨a1, a2⟩ <;> rcases b with ⟨b1, b2, b3, b4⟩ | ⟨b1, b2⟩
  · rcases Int.lt_trichotomy g h with h1 | h1 | h1
    · exact absurd a3 (b4 g (by omega) h1)
    · exact h1
    · exact absurd b3 (a4 h (by omega) h1)
  · exact absurd a3 (b2 _ a1 a2)
  · exact absurd b3 (a2 _ b1 b2)
  · omega
noncomputable def rootS (p : Int) : Int := @ite _ (IsP p ∧ p ≤ 1099511627776) (Classical.propDecidable _) (Classical.epsilon (IsRoot p)) 0
theorem rootS_eq {p g : Int} (h1 : IsP p) (h2 : p ≤ 1099511627776) (h : IsRoot p g) : rootS p = g := by
  unfold rootS; rw [@if_pos _ (Classical.propDecidable _) ⟨h1, h2⟩]
  exact (Classical.epsilon_spec (p := IsRoot p) ⟨g, h⟩).unique h
theorem rootS_no {p : Int} (h : ¬ (IsP p ∧ p ≤ 1099511627776)) : rootS p = 0 := @if_neg _ (Classical.propDecidable _) h _ _ _
noncomputable def facS (n : Int) : List (Int × Nat) := if 1 ≤ n ∧ n ≤ 1099511627776 then Classical.epsilon (IsFac n) else []
theorem facS_eq {n : Int} {l : List (Int × Nat)} (h1 : 1 ≤ n) (h2 : n ≤ 1099511627776) (h : IsFac n l) : facS n = l := by
  unfold facS; rw [if_pos ⟨h1, h2⟩]
  exact (Classical.epsilon_spec (p := IsFac n) ⟨l, h⟩).unique h
theorem facS_no {n : Int} (h : n < 1 ∨ 1099511627776 < n) : facS n = [] := if_neg (by omega)

/-- the order by multiplying again and again -/
structure OrdInv (a n x e : Int) : Prop where
  e1 : 1 ≤ e
  e2 : e ≤ n + 1
  x : x = (a ^ e.toNat) % n
  no : ∀ k : Nat, 1 ≤ k → (k : Int) < e → (a ^ k) % n ≠ 1 % n
theorem OrdInv.start {a n : Int} (h : 1 ≤ n) : OrdInv a n (a % n) 1 := ⟨by omega, by omega, by show a % n = (a ^ 1) % n; rw [Int.pow_succ, Int.pow_zero, Int.one_mul], fun k h1 h2 => by omega⟩
theorem OrdInv.next {a n x e : Int} (h : OrdInv a n x e) (he : e ≤ n) (hx : x ≠ 1 % n) : OrdInv a n ((x * (a % n)) % n) (e + 1) := by
  have e1 := h.e1
  refine ⟨by omega, by omega, ?_, fun k h1 h2 => ?_⟩
  · rw [h.x, mul_emod_l, mul_emod_r, show (e + 1).toNat = e.toNat + 1 from by omega, Int.pow_succ]
  · by_cases hk : (k : Int) = e
    · have : e.toNat = k := by omega
      rw [← this, ← h.x]; exact hx
    · exact h.no k h1 (by omega)
theorem OrdInv.found {a n x e : Int} (h : OrdInv a n x e) (hx : x = 1 % n) : IsOrd a n e := Or.inl ⟨h.e1, by rw [← h.x, hx], h.no⟩
theorem OrdInv.none {a n x e : Int} (h : OrdInv a n x e) (hn : 1 ≤ n) (he : ¬ e ≤ n) : IsOrd a n 0 := by
  refine Or.inr ⟨rfl, fun k hk hp => ?_⟩
  obtain ⟨j, j1, jn, hj⟩ := order_le hn hk hp
  exact h.no j j1 (by omega) hj

theorem len_le_40 {l : List (Int × Nat)} {n : Int} (h : (2 : Int) ^ l.length ≤ n) (hn : n ≤ 1099511627776) : l.length ≤ 40 := by
  refine Classical.byContradiction fun hc => ?_
  obtain ⟨j, hj⟩ : ∃ j, l.length = 41 + j := ⟨l.length - 41, by omega⟩
  rw [hj, Int.pow_add] at h
  have h1 : (1 : Int) ≤ 2 ^ j := by have : (0 : Int) < 2 ^ j := Int.pow_pos (by omega); omega
  have h2 : (2 : Int) ^ 41 * 1 ≤ 2 ^ 41 * 2 ^ j := Int.mul_le_mul_of_nonneg_left h1 (by omega)
  have h3 : (2 : Int) ^ 41 = 2199023255552 := by decide
  omega
theorem FacInv.len {n0 n d : Int} {l : List (Int × Nat)} (h : FacInv n0 n d l) (hn : n0 ≤ 1099511627776) : l.length ≤ 40 := by
  refine len_le_40 (n := n0) (Int.le_trans (fprod_len l (fun x hx => (h.prime x hx).1) h.pos) ?_) hn
  have h0 := fprod_pos l fun x hx => (h.prime x hx).1
  have : fprod l * 1 ≤ fprod l * n := Int.mul_le_mul_of_nonneg_left h.n1 (by omega)
  have := h.eq; omega

end Dia
