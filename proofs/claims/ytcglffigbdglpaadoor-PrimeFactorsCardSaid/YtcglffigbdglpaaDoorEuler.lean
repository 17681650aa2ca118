/- Layer 2 in plain numbers: Euler's power by the factors; the order as what is left when primes are taken away; roots. No program is named here. -/
import Derived.Test.YtcglffigbdglpaaDoorFacB
namespace Go.Proofs.YtcglffigbdglpaaDoor
open Dia

theorem geo (x : Int) : ∀ m : Nat, ∃ q, x ^ m - 1 = (x - 1) * q ∧ (x - 1) ∣ q - (m : Int)
  | 0 => ⟨0, by simp, by simp⟩
  | m + 1 => by
    obtain ⟨q, h1, h2⟩ := geo x m
    refine ⟨x * q + 1, ?_, ?_⟩
    · rw [Int.mul_add, Int.mul_one, ← Int.mul_assoc, Int.mul_comm (x - 1) x, Int.mul_assoc, ← h1, Int.mul_sub, Int.pow_succ, Int.mul_comm (x ^ m) x]; omega
    · have : x * q + 1 - ((m + 1 : Nat) : Int) = (x - 1) * q + (q - (m : Int)) := by rw [Int.sub_mul]; omega
      rw [this]; exact Int.dvd_add (Int.dvd_mul_right _ _) h2
theorem dvd_pow_sub (x : Int) (m : Nat) : x - 1 ∣ x ^ m - 1 := by
  obtain ⟨q, h, _⟩ := geo x m
  exact ⟨q, h⟩
theorem lift_pow {p x : Int} {k : Nat} (hp : 1 ≤ p) (hk : 1 ≤ k) (h : p ^ k ∣ x - 1) : p ^ (k + 1) ∣ x ^ p.toNat - 1 := by
  obtain ⟨q, h1, h2⟩ := geo x p.toNat
  rw [h1, Int.pow_succ]
  refine Int.mul_dvd_mul h ?_
  have hpk : p ∣ p ^ k := by
    obtain ⟨j, rfl⟩ : ∃ j, k = j + 1 := ⟨k - 1, by omega⟩
    rw [Int.pow_succ]; exact Int.dvd_mul_left _ _
  have h3 : p ∣ q - (p.toNat : Int) := Int.dvd_trans (Int.dvd_trans hpk h) h2
  rw [Int.toNat_of_nonneg (by omega)] at h3
  have : q = (q - p) + p := by omega
  rw [this]; exact Int.dvd_add h3 (Int.dvd_refl _)
theorem pp_euler {p a : Int} (hp : IsP p) (ha : ¬ p ∣ a) : ∀ f : Nat, p ^ (f + 1) ∣ a ^ ((p ^ f).toNat * (p - 1).toNat) - 1
  | 0 => by
    have h := hp.fermat ha
    have h1 : (1 : Int) % p = 1 := Int.emod_eq_of_lt (by omega) (by have := hp.1; omega)
    simp only [Int.pow_zero, Int.pow_succ, Int.one_mul]
    rw [show ((1 : Int).toNat) = 1 from rfl, Nat.one_mul]
    exact dvd_sub_of_mod (h.trans h1.symm)
  | f + 1 => by
    have ih := pp_euler hp ha f
    have h := lift_pow (by have := hp.1; omega) (by omega) ih
    rw [← Int.pow_mul] at h
    have e : (p ^ (f + 1)).toNat * (p - 1).toNat = (p ^ f).toNat * (p - 1).toNat * p.toNat := by
      rw [Int.pow_succ, Int.toNat_mul (Int.le_of_lt (Int.pow_pos (by have := hp.1; omega))) (by have := hp.1; omega), Nat.mul_assoc, Nat.mul_assoc, Nat.mul_comm p.toNat]
    rw [e]; exact h

/-- how many remainders have no prime in common with the product -/
def psi : List (Int × Nat) → Int
  | [] => 1
  | x :: l => x.1 ^ (x.2 - 1) * (x.1 - 1) * psi l
theorem psi_append : ∀ l m : List (Int × Nat), psi (l ++ m) = psi l * psi m
  | [], m => by simp [psi]
  | x :: l, m => by simp only [List.cons_append, psi]; rw [psi_append l m, Int.mul_assoc _ (psi l)]
theorem psi_pos : ∀ l : List (Int × Nat), (∀ x ∈ l, 2 ≤ x.1) → 1 ≤ psi l
  | [], _ => by simp [psi]
  | x :: l, h => by
    have h1 := psi_pos l fun y hy => h y (by simp [hy])
    have h2 := h x (by simp)
    have h3 : 1 ≤ x.1 ^ (x.2 - 1) := Int.pow_pos (by omega)
    have h4 : 1 * 1 ≤ x.1 ^ (x.2 - 1) * (x.1 - 1) := Int.mul_le_mul h3 (by omega) (by omega) (by omega)
    show 1 ≤ x.1 ^ (x.2 - 1) * (x.1 - 1) * psi l
    have : 1 * 1 ≤ x.1 ^ (x.2 - 1) * (x.1 - 1) * psi l := Int.mul_le_mul (by omega) h1 (by omega) (by omega)
    omega
theorem pp_dvd {p c t : Int} (hp : IsP p) (hc : ¬ p ∣ c) : ∀ e : Nat, p ^ e ∣ c * t → p ^ e ∣ t
  | 0, _ => by simp
  | e + 1, h => by
    have h1 := pp_dvd hp hc e (Int.dvd_trans ⟨p, by rw [Int.pow_succ]⟩ h)
    obtain ⟨u, hu⟩ := h1
    obtain ⟨v, hv⟩ := h
    have hpos : (0 : Int) < p ^ e := Int.pow_pos (by have := hp.1; omega)
    have h2 : p ^ e * (c * u) = p ^ e * (p * v) := by
      rw [hu, Int.pow_succ, ← Int.mul_assoc, Int.mul_comm c] at hv
      rw [← Int.mul_assoc, hv, Int.mul_assoc]
    have h3 := Int.eq_of_mul_eq_mul_left (by omega) h2
    rcases hp.dvd_mul ⟨v, h3⟩ with h4 | h4
    · exact absurd h4 hc
    · rw [hu, Int.pow_succ]; exact Int.mul_dvd_mul (Int.dvd_refl _) h4
theorem euler : ∀ (l : List (Int × Nat)) (a : Int), (∀ x ∈ l, IsP x.1) → (∀ x ∈ l, 1 ≤ x.2) → l.Pairwise (fun x y => x.1 < y.1) → (∀ x ∈ l, ¬ x.1 ∣ a) → fprod l ∣ a ^ (psi l).toNat - 1
  | [], a, _, _, _, _ => by simp [fprod]
  | x :: l, a, hp, he, hu, hn => by
    rw [List.pairwise_cons] at hu
    have ih := euler l a (fun y hy => hp y (by simp [hy])) (fun y hy => he y (by simp [hy])) hu.2 (fun y hy => hn y (by simp [hy]))
    have px := hp x (by simp)
    have ex := he x (by simp)
    obtain ⟨f, hf⟩ : ∃ f, x.2 = f + 1 := ⟨x.2 - 1, by omega⟩
    have h1 := pp_euler px (hn x (by simp)) f
    have hps := psi_pos l fun y hy => (hp y (by simp [hy])).1
    have hpf : 1 ≤ x.1 ^ f := Int.pow_pos (by have := px.1; omega)
    have e1 : (psi (x :: l)).toNat = (x.1 ^ f).toNat * (x.1 - 1).toNat * (psi l).toNat := by
      show (x.1 ^ (x.2 - 1) * (x.1 - 1) * psi l).toNat = _
      rw [hf, Nat.add_sub_cancel, Int.toNat_mul (Int.mul_nonneg (by omega) (by have := px.1; omega)) (by omega), Int.toNat_mul (by omega) (by have := px.1; omega)]
    rw [e1]
    have h2 : x.1 ^ x.2 ∣ a ^ ((x.1 ^ f).toNat * (x.1 - 1).toNat * (psi l).toNat) - 1 := by
      rw [hf, Int.pow_mul]; exact Int.dvd_trans h1 (dvd_pow_sub _ _)
    have h3 : fprod l ∣ a ^ ((x.1 ^ f).toNat * (x.1 - 1).toNat * (psi l).toNat) - 1 := by
      rw [Nat.mul_comm, Int.pow_mul]; exact Int.dvd_trans ih (dvd_pow_sub _ _)
    obtain ⟨t, ht⟩ := h3
    have hnd : ¬ x.1 ∣ fprod l := by
      intro hc
      obtain ⟨y, hy, e⟩ := px.mem_of_dvd l (fun y hy => hp y (by simp [hy])) hc
      have := hu.1 y hy
      omega
    rw [ht] at h2 ⊢
    have h4 := pp_dvd px hnd x.2 h2
    show x.1 ^ x.2 * fprod l ∣ fprod l * t
    rw [Int.mul_comm (x.1 ^ x.2)]
    exact Int.mul_dvd_mul (Int.dvd_refl _) h4

/-- the count: what is left of n when each prime's share is taken away -/
structure CountInv (l : List (Int × Nat)) (i : Nat) (c : Int) : Prop where
  i_le : i ≤ l.length
  eq : c = psi (l.take i) * fprod (l.drop i)
theorem CountInv.start {n : Int} {l : List (Int × Nat)} (h : fprod l = n) : CountInv l 0 n := ⟨by omega, by simp [psi, h]⟩
theorem CountInv.pos {l : List (Int × Nat)} {i : Nat} {c : Int} (h : CountInv l i c) (h2 : ∀ x ∈ l, 2 ≤ x.1) : 1 ≤ c := by
  have h3 := psi_pos (l.take i) fun x hx => h2 x (List.mem_of_mem_take hx)
  have h4 := fprod_pos2 (l.drop i) fun x hx => h2 x (List.mem_of_mem_drop hx)
  have : 1 * 1 ≤ psi (l.take i) * fprod (l.drop i) := Int.mul_le_mul h3 h4 (by omega) (by omega)
  have := h.eq
  omega
theorem CountInv.next {l : List (Int × Nat)} {i : Nat} {c : Int} (h : CountInv l i c) (h2 : ∀ x ∈ l, 2 ≤ x.1) (h1 : ∀ x ∈ l, 1 ≤ x.2) {x : Int × Nat} (hx : l[i]? = some x) : CountInv l (i + 1) (c - c / x.1) ∧ 0 ≤ c / x.1 := by
  have hm := List.mem_of_getElem? hx
  obtain ⟨hlt, hg⟩ := List.getElem?_eq_some_iff.1 hx
  have x2 := h2 x hm
  obtain ⟨f, hf⟩ : ∃ f, x.2 = f + 1 := ⟨x.2 - 1, by have := h1 x hm; omega⟩
  have ed : l.drop i = x :: l.drop (i + 1) := by rw [List.drop_eq_getElem_cons hlt, hg]
  have et : l.take (i + 1) = l.take i ++ [x] := by rw [List.take_add_one, hx]; rfl
  have ec : c = x.1 * (psi (l.take i) * x.1 ^ f * fprod (l.drop (i + 1))) := by
    rw [h.eq, ed]
    show psi (l.take i) * (x.1 ^ x.2 * fprod (l.drop (i + 1))) = _
    rw [hf, Int.pow_succ]
    ac_rfl
  have eq : c / x.1 = psi (l.take i) * x.1 ^ f * fprod (l.drop (i + 1)) := by
    rw [ec]; exact Int.mul_ediv_cancel_left _ (by omega)
  refine ⟨⟨by omega, ?_⟩, Int.ediv_nonneg (by have := h.pos h2; omega) (by omega)⟩
  rw [eq, et, psi_append]
  have e3 : psi [x] = x.1 ^ f * (x.1 - 1) := by show x.1 ^ (x.2 - 1) * (x.1 - 1) * 1 = _; rw [hf, Int.mul_one]; rfl
  rw [e3]
  have e4 : c = (psi (l.take i) * x.1 ^ f * fprod (l.drop (i + 1))) * x.1 := by rw [Int.mul_comm]; exact ec
  rw [e4]
  generalize psi (l.take i) = A
  generalize x.1 ^ f = B
  generalize fprod (l.drop (i + 1)) = C
  have : A * (B * (x.1 - 1)) * C = A * B * C * (x.1 - 1) := by ac_rfl
  rw [this, Int.mul_sub, Int.mul_one]
theorem CountInv.done {l : List (Int × Nat)} {i : Nat} {c : Int} (h : CountInv l i c) (hi : ¬ i < l.length) : c = psi l := by
  have : i = l.length := by have := h.i_le; omega
  subst this
  rw [h.eq]; simp [fprod]
theorem psi_le {n : Int} {l : List (Int × Nat)} (h : IsFacB n l) : psi l ≤ n := by
  have h2 : ∀ x ∈ l, 2 ≤ x.1 := fun x hx => isB_two (h.isb x hx)
  have key : ∀ i, i ≤ l.length → ∃ c, CountInv l i c ∧ c ≤ n := by
    intro i
    induction i with
    | zero => exact fun _ => ⟨n, CountInv.start h.eq, by omega⟩
    | succ i ih =>
      intro hi
      obtain ⟨c, hc, hn⟩ := ih (by omega)
      obtain ⟨k1, k2⟩ := hc.next h2 h.pos (List.getElem?_eq_getElem (by omega : i < l.length))
      exact ⟨_, k1, by omega⟩
  obtain ⟨c, hc, hn⟩ := key l.length (by omega)
  have := hc.done (by omega)
  omega

/-! the order -/
theorem least_nat (P : Nat → Prop) : ∀ k, P k → ∃ m, P m ∧ ∀ j, j < m → ¬ P j := by
  intro k
  induction k using Nat.strongRecOn with
  | _ k ih =>
    intro hk
    by_cases h : ∃ j, j < k ∧ P j
    · obtain ⟨j, hj, pj⟩ := h
      exact ih j hj pj
    · exact ⟨k, hk, fun j hj pj => h ⟨j, hj, pj⟩⟩
theorem ord_exists (a n : Int) : ∃ e, IsOrd a n e := by
  by_cases h : ∃ k : Nat, 1 ≤ k ∧ (a ^ k) % n = 1 % n
  · obtain ⟨k, hk⟩ := h
    obtain ⟨m, ⟨m1, hm⟩, hl⟩ := least_nat (fun k => 1 ≤ k ∧ (a ^ k) % n = 1 % n) k hk
    exact ⟨m, Or.inl ⟨by omega, by simpa using hm, fun j j1 jm hj => hl j (by omega) ⟨j1, hj⟩⟩⟩
  · exact ⟨0, Or.inr ⟨rfl, fun k k1 hk => h ⟨k, k1, hk⟩⟩⟩
theorem ord_pow {a n e : Int} (h : IsOrd a n e) (h1 : 1 ≤ e) {k : Nat} (hk : e ∣ (k : Int)) : (a ^ k) % n = 1 % n := by
  rcases h with ⟨_, h2, _⟩ | ⟨h2, _⟩
  · obtain ⟨j, hj⟩ := hk
    have hj0 : 0 ≤ j := by
      refine Classical.byContradiction fun hc => ?_
      have : e * j ≤ e * (-1) := Int.mul_le_mul_of_nonneg_left (by omega) (by omega)
      omega
    have : k = e.toNat * j.toNat := by
      have : (k : Int) = ((e.toNat * j.toNat : Nat) : Int) := by rw [Int.natCast_mul, Int.toNat_of_nonneg (by omega), Int.toNat_of_nonneg hj0]; exact hj
      omega
    rw [this, Int.pow_mul, ← pow_emod, h2, pow_emod, Int.one_pow]
  · omega
theorem prime_div {m : Int} (h : 2 ≤ m) : ∃ p, IsP p ∧ p ∣ m := by
  by_cases hp : IsP m
  · exact ⟨m, hp, Int.dvd_refl _⟩
  · obtain ⟨c, c2, _, hc, hl⟩ := least_div h hp
    refine ⟨c, ⟨c2, fun d d2 dc hd => hl d d2 dc ?_⟩, Int.dvd_of_emod_eq_zero hc⟩
    exact Int.emod_eq_zero_of_dvd (Int.dvd_trans (Int.dvd_of_emod_eq_zero hd) (Int.dvd_of_emod_eq_zero hc))
theorem one_of_no_prime {k N : Int} {l : List (Int × Nat)} (hk : 1 ≤ k) (hN : k ∣ N) (h : IsFac N l) (hno : ∀ x ∈ l, ¬ x.1 ∣ k) : k = 1 := by
  refine Classical.byContradiction fun hc => ?_
  obtain ⟨p, hp, hd⟩ := prime_div (show 2 ≤ k by omega)
  obtain ⟨x, hx, e⟩ := hp.mem_of_dvd l h.prime (by rw [h.eq]; exact Int.dvd_trans hd hN)
  exact hno x hx (e ▸ hd)

/-- the reduction: o is e times k, and the primes that were tried don't divide k -/
structure RedInv (N e o k : Int) (l : List (Int × Nat)) (i : Nat) : Prop where
  i_le : i ≤ l.length
  k1 : 1 ≤ k
  eq : o = e * k
  dvd : o ∣ N
  o_le : o ≤ N
  o1 : 1 ≤ o
  no : ∀ j, j < i → ∀ x, l[j]? = some x → ¬ x.1 ∣ k
theorem RedInv.start {a n e N : Int} {l : List (Int × Nat)} (h : IsOrd a n e) (hN : 1 ≤ N) (hp : (a ^ N.toNat) % n = 1 % n) : 1 ≤ e ∧ ∃ k, RedInv N e N k l 0 := by
  obtain ⟨h1, h2⟩ := h.dvd (k := N.toNat) (by omega) hp
  rw [Int.toNat_of_nonneg (by omega)] at h2
  obtain ⟨k, hk⟩ := h2
  refine ⟨h1, k, ⟨by omega, ?_, hk, Int.dvd_refl _, by omega, hN, fun j hj => by omega⟩⟩
  refine Classical.byContradiction fun hc => ?_
  have : e * k ≤ e * 0 := Int.mul_le_mul_of_nonneg_left (by omega) (by omega)
  omega
theorem RedInv.take {a n N e o k : Int} {l : List (Int × Nat)} {i : Nat} (h : RedInv N e o k l i) (ho : IsOrd a n e) (e1 : 1 ≤ e) {p : Int} (hp : 2 ≤ p) (hd : o % p = 0) (hq : (a ^ (o / p).toNat) % n = 1 % n) : (∃ k', RedInv N e (o / p) k' l i) ∧ o / p < o ∧ 1 ≤ o / p := by
  have h1 := h.o1
  have hm := Int.mul_ediv_add_emod o p
  rw [hd, Int.add_zero] at hm
  have hq1 : 1 ≤ o / p := by
    refine Classical.byContradiction fun hc => ?_
    have : p * (o / p) ≤ p * 0 := Int.mul_le_mul_of_nonneg_left (by omega) (by omega)
    omega
  have hlt : o / p < o := by
    have : 2 * (o / p) ≤ p * (o / p) := Int.mul_le_mul_of_nonneg_right hp (by omega)
    omega
  obtain ⟨_, h2⟩ := ho.dvd (k := (o / p).toNat) (by omega) hq
  rw [Int.toNat_of_nonneg (by omega)] at h2
  obtain ⟨k', hk'⟩ := h2
  have hk1 : 1 ≤ k' := by
    refine Classical.byContradiction fun hc => ?_
    have : e * k' ≤ e * 0 := Int.mul_le_mul_of_nonneg_left (by omega) (by omega)
    omega
  have hkk : k = p * k' := by
    have h3 : e * k = e * (p * k') := by rw [← h.eq, ← hm, hk']; ac_rfl
    exact Int.eq_of_mul_eq_mul_left (by omega) h3
  refine ⟨⟨k', ⟨h.i_le, hk1, hk', Int.dvd_trans ⟨p, by rw [Int.mul_comm]; exact hm.symm⟩ h.dvd, by have := h.o_le; omega, hq1, fun j hj x hx hc => h.no j hj x hx ?_⟩⟩, hlt, hq1⟩
  rw [hkk]; exact Int.dvd_trans hc (Int.dvd_mul_left _ _)
theorem RedInv.next {a n N e o k : Int} {l : List (Int × Nat)} {i : Nat} (h : RedInv N e o k l i) (ho : IsOrd a n e) (e1 : 1 ≤ e) {x : Int × Nat} (hx : l[i]? = some x) (hp : 2 ≤ x.1) (hno : ¬ (o % x.1 = 0 ∧ (a ^ (o / x.1).toNat) % n = 1 % n)) : RedInv N e o k l (i + 1) := by
  have hlt := (List.getElem?_eq_some_iff.1 hx).1
  refine ⟨by omega, h.k1, h.eq, h.dvd, h.o_le, h.o1, fun j hj y hy => ?_⟩
  by_cases c : j = i
  · subst c
    rw [hx] at hy; cases hy
    rintro ⟨k', hk'⟩
    have h1 := h.k1
    have h2 : o = x.1 * (e * k') := by rw [h.eq, hk']; ac_rfl
    refine hno ⟨by rw [h2]; simp, ?_⟩
    have h3 : o / x.1 = e * k' := by rw [h2]; exact Int.mul_ediv_cancel_left _ (by omega)
    have hk1 : 1 ≤ k' := by
      refine Classical.byContradiction fun hc => ?_
      have : x.1 * k' ≤ x.1 * 0 := Int.mul_le_mul_of_nonneg_left (by omega) (by omega)
      omega
    refine ord_pow ho e1 ?_
    rw [h3, Int.toNat_of_nonneg (Int.mul_nonneg (by omega) (by omega))]
    exact Int.dvd_mul_right _ _
  · exact h.no j (by omega) y hy
theorem RedInv.done {N e o k : Int} {l : List (Int × Nat)} {i : Nat} (h : RedInv N e o k l i) (hF : IsFac N l) (hi : ¬ i < l.length) : o = e := by
  have hk := one_of_no_prime h.k1 (Int.dvd_trans ⟨e, by rw [Int.mul_comm]; exact h.eq⟩ h.dvd) hF fun x hx => by
    obtain ⟨j, hj⟩ := List.mem_iff_getElem?.1 hx
    exact h.no j (by have := (List.getElem?_eq_some_iff.1 hj).1; omega) x hj
  rw [h.eq, hk, Int.mul_one]

/-- no power leaves 1 where there is a common divisor -/
theorem ord_none {a n : Int} (hn : 1 ≤ n) (h : (Int.gcd (a % n) n : Int) ≠ 1) : IsOrd a n 0 := by
  refine Or.inr ⟨rfl, fun k k1 hk => h ?_⟩
  have hg : 1 ≤ (Int.gcd (a % n) n : Int) := by
    have : 0 < Int.gcd (a % n) n := Int.gcd_pos_of_ne_zero_right _ (by omega)
    omega
  have g1 : (Int.gcd (a % n) n : Int) ∣ a % n := Int.gcd_dvd_left _ _
  have g2 : (Int.gcd (a % n) n : Int) ∣ n := Int.gcd_dvd_right _ _
  have g3 : (Int.gcd (a % n) n : Int) ∣ a := by
    have h5 := Int.dvd_add (Int.dvd_trans g2 (Int.dvd_mul_right n (a / n))) g1
    rwa [Int.mul_ediv_add_emod] at h5
  have g4 : (Int.gcd (a % n) n : Int) ∣ a ^ k := by
    obtain ⟨j, rfl⟩ : ∃ j, k = j + 1 := ⟨k - 1, by omega⟩
    rw [Int.pow_succ]; exact Int.dvd_trans g3 (Int.dvd_mul_left _ _)
  have g5 : (Int.gcd (a % n) n : Int) ∣ 1 := by
    have h6 := Int.dvd_trans g2 (dvd_sub_of_mod hk)
    have : (1 : Int) = a ^ k - (a ^ k - 1) := by omega
    rw [this]; exact Int.dvd_sub g4 h6
  have := Int.le_of_dvd (by omega) g5
  omega
theorem euler_mod {a n : Int} {l : List (Int × Nat)} (h : IsFac n l) (hg : (Int.gcd (a % n) n : Int) = 1) : (a ^ (psi l).toNat) % n = 1 % n := by
  refine mod_of_dvd_sub ?_
  have := euler l a h.prime h.pos h.up fun x hx hc => ?_
  · rwa [h.eq] at this
  · have hd := fprod_dvd l h.pos x hx
    rw [h.eq] at hd
    have hm : x.1 ∣ a % n := by
      have e := Int.mul_ediv_add_emod a n
      have : a % n = a - n * (a / n) := by omega
      rw [this]; exact Int.dvd_sub hc (Int.dvd_trans hd (Int.dvd_mul_right _ _))
    have h1 := Int.dvd_coe_gcd hm hd
    rw [hg] at h1
    have := Int.le_of_dvd (by omega) h1
    have := (h.prime x hx).1
    omega

/-! roots -/
/-- is g's order by p the whole of p - 1? -/
def Full (g p : Int) (l : List (Int × Nat)) : Prop := ∀ x ∈ l, (g ^ ((p - 1) / x.1).toNat) % p ≠ 1
theorem Full.ord {g p : Int} {l : List (Int × Nat)} (hp : IsP p) (hp2 : p ≤ 1099511627776) (h1 : 1 ≤ g) (h2 : g < p) (hF : IsFac (p - 1) l) : Full g p l ↔ ordS g p = p - 1 := by
  have p2 := hp.1
  have one : (1 : Int) % p = 1 := Int.emod_eq_of_lt (by omega) (by omega)
  have hnd : ¬ p ∣ g := fun hc => by have := Int.le_of_dvd (by omega) hc; omega
  obtain ⟨e, he⟩ := ord_exists g p
  obtain ⟨e1, k, hR⟩ := RedInv.start (l := l) he (N := p - 1) (by omega) (by rw [hp.fermat hnd, one])
  rw [ordS_eq (by omega) hp2 he]
  constructor
  · intro hf
    have key : ∀ i, i ≤ l.length → RedInv (p - 1) e (p - 1) k l i := by
      intro i
      induction i with
      | zero => exact fun _ => hR
      | succ i ih =>
        intro hi
        have hg := List.getElem?_eq_getElem (by omega : i < l.length)
        have hm := List.mem_of_getElem? hg
        refine (ih (by omega)).next he e1 hg (hF.prime _ hm).1 fun hc => ?_
        rw [one] at hc
        exact hf _ hm hc.2
    exact ((key l.length (by omega)).done hF (by omega)).symm
  · intro heq x hx hc
    have hxp := hF.prime x hx
    have hd := fprod_dvd l hF.pos x hx
    rw [hF.eq] at hd
    have hm := Int.mul_ediv_add_emod (p - 1) x.1
    rw [Int.emod_eq_zero_of_dvd hd, Int.add_zero] at hm
    have x2 := hxp.1
    have hq1 : 1 ≤ (p - 1) / x.1 := by
      refine Classical.byContradiction fun hc => ?_
      have : x.1 * ((p - 1) / x.1) ≤ x.1 * 0 := Int.mul_le_mul_of_nonneg_left (by omega) (by omega)
      omega
    have hlt : 2 * ((p - 1) / x.1) ≤ x.1 * ((p - 1) / x.1) := Int.mul_le_mul_of_nonneg_right x2 (by omega)
    rcases he with ⟨_, _, h3⟩ | ⟨h3, _⟩
    · exact h3 ((p - 1) / x.1).toNat (by omega) (by omega) (by rw [one]; exact hc)
    · omega
end Go.Proofs.YtcglffigbdglpaaDoor
