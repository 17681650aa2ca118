/- Pairs of primes with the same squares among the bases, and what a third factor could be: the finite search. No program is named here. -/
import Derived.Test.YtcglffigbdglpaaDoorSig
namespace Go.Proofs.YtcglffigbdglpaaDoor
open Dia

noncomputable def bit (b x : Nat) : Bool := force (Nat.div (Nat.pred x) 2) fun e => Nat.beq (pm b e x) 1
theorem bit_iff (b x : Nat) : bit b x = true ↔ b ^ ((x - 1) / 2) % x = 1 := by
  unfold bit
  rw [force_eq, pm_eq]
  exact ⟨fun h => Nat.eq_of_beq_eq_true h, fun h => by show Nat.beq (b ^ ((x - 1) / 2) % x) 1 = true; rw [h]; rfl⟩

/-- numbers that could be primes -/
noncomputable def cand (x : Nat) : Bool := Bool.rec false (Nat.beq (pm 2 (Nat.pred x) x) 1) (Nat.beq (Nat.gcd x WG) 1)
theorem cand_ok {x : Nat} (hx : IsP (x : Int)) (h41 : 41 ≤ x) : cand x = true := by
  unfold cand
  rw [show Nat.beq (Nat.gcd x WG) 1 = true by rw [prime_gcd hx h41]; rfl, pm_eq, show 2 ^ Nat.pred x % x = 1 from base_fermat hx h41 (by decide)]
  rfl
noncomputable def put (x : Nat) (acc : List Nat) : List Nat := Bool.rec acc (x :: acc) (cand x)
theorem put_keep {x y : Nat} {acc : List Nat} (h : y ∈ acc) : y ∈ put x acc := by
  unfold put
  cases cand x with
  | true => exact List.mem_cons_of_mem _ h
  | false => exact h
theorem put_new {x : Nat} {acc : List Nat} (h : cand x = true) : x ∈ put x acc := by
  unfold put
  rw [h]; exact List.mem_cons_self
noncomputable def leafC (i : Nat) (acc : List Nat) : List Nat := force (Nat.add (Nat.mul 6 i) 1) fun q => force (Nat.add q 4) fun r => put q (put r acc)
noncomputable def coll (k : Nat) : Nat → List Nat → List Nat := Nat.rec (fun lo acc => force lo fun lo => leafC lo acc) (fun k ih lo acc => ih lo (ih (Nat.add lo (Nat.pow 2 k)) acc)) k
theorem coll_zero (lo : Nat) (acc : List Nat) : coll 0 lo acc = put (6 * lo + 1) (put (6 * lo + 1 + 4) acc) := by
  have e : coll 0 lo acc = force lo fun lo => leafC lo acc := rfl
  rw [e, force_eq]
  unfold leafC
  rw [force_eq, force_eq]
  rfl
theorem coll_succ (k lo : Nat) (acc : List Nat) : coll (k + 1) lo acc = coll k lo (coll k (Nat.add lo (Nat.pow 2 k)) acc) := rfl
theorem coll_keep : ∀ (k lo : Nat) (acc : List Nat) {y : Nat}, y ∈ acc → y ∈ coll k lo acc
  | 0, lo, acc, y, h => by rw [coll_zero]; exact put_keep (put_keep h)
  | k + 1, lo, acc, y, h => by rw [coll_succ]; exact coll_keep k lo _ (coll_keep k _ acc h)
theorem coll_new (x : Nat) (hc : cand x = true) (h6 : x % 6 = 1 ∨ x % 6 = 5) (k : Nat) : ∀ (lo : Nat) (acc : List Nat), 6 * lo ≤ x → x < 6 * (lo + 2 ^ k) → x ∈ coll k lo acc := by
  induction k with
  | zero =>
    intro lo acc h1 h2
    rw [coll_zero]
    rw [Nat.pow_zero] at h2
    rcases h6 with h6 | h6
    · have e : 6 * lo + 1 = x := by omega
      rw [e]; exact put_new hc
    · have e : 6 * lo + 1 + 4 = x := by omega
      rw [e]; exact put_keep (put_new hc)
  | succ k ih =>
    intro lo acc h1 h2
    rw [coll_succ]
    rw [Nat.pow_succ] at h2
    by_cases c : x < 6 * (lo + 2 ^ k)
    · exact ih lo _ h1 c
    · refine coll_keep k lo _ (ih _ acc ?_ ?_)
      · show 6 * (lo + 2 ^ k) ≤ x
        omega
      · show x < 6 * (lo + 2 ^ k + 2 ^ k)
        omega

/-- a list in two parts -/
noncomputable def parts (b : Nat) (l : List Nat) (k : List Nat → List Nat → Bool) : Bool :=
  (List.rec (motive := fun _ => List Nat → List Nat → Bool) (fun t f => k t f) (fun x _ ih t f => Bool.rec (ih t (x :: f)) (ih (x :: t) f) (bit b x)) l) [] []
noncomputable def partsA (b : Nat) (k : List Nat → List Nat → Bool) (l : List Nat) : List Nat → List Nat → Bool :=
  List.rec (motive := fun _ => List Nat → List Nat → Bool) (fun t f => k t f) (fun x _ ih t f => Bool.rec (ih t (x :: f)) (ih (x :: t) f) (bit b x)) l
theorem partsA_ok (b : Nat) (k : List Nat → List Nat → Bool) : ∀ (l t f : List Nat), partsA b k l t f = true →
    ∃ t' f', k t' f' = true ∧ (∀ x ∈ t, x ∈ t') ∧ (∀ x ∈ f, x ∈ f') ∧ ∀ x ∈ l, (bit b x = true → x ∈ t') ∧ (bit b x = false → x ∈ f')
  | [], t, f, h => ⟨t, f, h, fun _ h => h, fun _ h => h, by simp⟩
  | x :: l, t, f, h => by
    have e : partsA b k (x :: l) t f = Bool.rec (partsA b k l t (x :: f)) (partsA b k l (x :: t) f) (bit b x) := rfl
    rw [e] at h
    cases hb : bit b x with
    | true =>
      rw [hb] at h
      obtain ⟨t', f', h1, h2, h3, h4⟩ := partsA_ok b k l _ _ h
      refine ⟨t', f', h1, fun y hy => h2 y (by simp [hy]), h3, fun y hy => ?_⟩
      rcases List.mem_cons.1 hy with rfl | hy
      · exact ⟨fun _ => h2 y (by simp), fun hc => by rw [hb] at hc; cases hc⟩
      · exact h4 y hy
    | false =>
      rw [hb] at h
      obtain ⟨t', f', h1, h2, h3, h4⟩ := partsA_ok b k l _ _ h
      refine ⟨t', f', h1, h2, fun y hy => h3 y (by simp [hy]), fun y hy => ?_⟩
      rcases List.mem_cons.1 hy with rfl | hy
      · exact ⟨(fun hc => by rw [hb] at hc; cases hc), fun _ => h3 y (by simp)⟩
      · exact h4 y hy
theorem parts_ok {b : Nat} {l : List Nat} {k : List Nat → List Nat → Bool} (h : parts b l k = true) : ∃ t f, k t f = true ∧ ∀ x ∈ l, (bit b x = true → x ∈ t) ∧ (bit b x = false → x ∈ f) := by
  obtain ⟨t, f, h1, _, _, h4⟩ := partsA_ok b k l [] [] h
  exact ⟨t, f, h1, h4⟩

/-- an inverse by Euclid -/
def invE : Nat → Nat → Nat → Nat → Nat → Nat → Nat
  | 0, _, _, s, _, _ => s
  | k + 1, r, r', s, s', m => if r' = 0 then s else invE k r' (r % r') s' ((s + (m - (r / r' * s') % m)) % m) m
/-- of two primes: no third factor makes such a number -/
def pairOk (p q : Nat) : Bool := Nat.blt NN (p * q * (q + 1)) ||
  (let m := (p - 1) * (q - 1) / Nat.gcd (p - 1) (q - 1)
   let u := p * q % m
   Nat.gcd u m != 1 || (let c := invE 100 m u 0 1 m
     Nat.blt c m && Nat.beq (c * u % m) 1 && (List.range (NN / (p * q) / m + 1)).all fun t => bad (p * q * (c + t * m))))
theorem inv_unique {u m c d : Nat} (h1 : c * u % m = 1 % m) (h2 : d * u % m = 1 % m) : c % m = d % m := by
  have e1 : c * (d * u) % m = c % m := by rw [Nat.mul_mod, h2, ← Nat.mul_mod, Nat.mul_one]
  have e2 : c * (d * u) % m = d % m := by
    have : c * (d * u) = d * (c * u) := by ac_rfl
    rw [this, Nat.mul_mod, h1, ← Nat.mul_mod, Nat.mul_one]
  rw [← e1, e2]
theorem pairOk_ok {n p q c : Nat} (h : pairOk p q = true) (hn : Psp n) (hp : Pdv n p) (hq : Pdv n q) (fp : p - 1 ∣ n - 1) (fq : q - 1 ∣ n - 1) (hnc : n = p * q * c) (hc : q + 1 ≤ c) : False := by
  have p41 := hp.ge hn
  have q41 := hq.ge hn
  have hn3 := hn.n3
  have hpq : 1 ≤ p * q := Nat.mul_pos (by omega) (by omega)
  unfold pairOk at h
  rcases Bool.or_eq_true_iff.1 h with h | h
  · have h1 : p * q * (q + 1) ≤ p * q * c := Nat.mul_le_mul_left _ hc
    rw [← hnc] at h1
    have h2 := hn.le
    have h3 : NN < p * q * (q + 1) := by simp [Nat.blt] at h; omega
    omega
  · obtain ⟨m, hm⟩ : ∃ m, m = (p - 1) * (q - 1) / Nat.gcd (p - 1) (q - 1) := ⟨_, rfl⟩
    have hlcm : m = Nat.lcm (p - 1) (q - 1) := hm
    have hmn : m ∣ n - 1 := by rw [hlcm]; exact Nat.lcm_dvd fp fq
    have hm2 : 2 ≤ m := by
      have h1 : p - 1 ∣ m := by rw [hlcm]; exact Nat.dvd_lcm_left _ _
      have h2 : 0 < m := by rw [hlcm]; exact Nat.lcm_pos (by omega) (by omega)
      have := Nat.le_of_dvd h2 h1
      omega
    have hcu : c * (p * q % m) % m = 1 % m := by
      rw [Nat.mul_mod, Nat.mod_mod, ← Nat.mul_mod, Nat.mul_comm, ← hnc]
      obtain ⟨j, hj⟩ := hmn
      have : n = 1 + m * j := by omega
      rw [this, Nat.add_mul_mod_self_left]
    simp only [← hm] at h
    rcases Bool.or_eq_true_iff.1 h with h | h
    · have h1 : Nat.gcd (p * q % m) m ≠ 1 := by simpa using h
      have hd1 : Nat.gcd (p * q % m) m ∣ c * (p * q % m) := Nat.dvd_trans (Nat.gcd_dvd_left _ _) (Nat.dvd_mul_left _ _)
      have hd2 : Nat.gcd (p * q % m) m ∣ m := Nat.gcd_dvd_right _ _
      have hd3 : Nat.gcd (p * q % m) m ∣ c * (p * q % m) % m := (Nat.dvd_mod_iff hd2).2 hd1
      rw [hcu, Nat.mod_eq_of_lt (show 1 < m by omega)] at hd3
      exact h1 (Nat.dvd_one.1 hd3)
    · obtain ⟨h1, h2⟩ := Bool.and_eq_true_iff.1 h
      obtain ⟨h0, h1⟩ := Bool.and_eq_true_iff.1 h1
      have h1 := Nat.eq_of_beq_eq_true h1
      have h3 := inv_unique (h1.trans (Nat.mod_eq_of_lt (show 1 < m by omega)).symm) hcu
      obtain ⟨c0, hc0⟩ : ∃ c0, c0 = invE 100 m (p * q % m) 0 1 m := ⟨_, rfl⟩
      rw [← hc0] at h0 h1 h2 h3
      have hcle : c ≤ NN / (p * q) := by
        refine (Nat.le_div_iff_mul_le hpq).2 ?_
        rw [Nat.mul_comm, ← hnc]; exact hn.le
      by_cases hlt : c0 ≤ c
      · obtain ⟨t, ht⟩ : m ∣ c - c0 := Nat.dvd_of_mod_eq_zero (Nat.sub_mod_eq_zero_of_mod_eq h3.symm)
        have htc : c = c0 + t * m := by rw [Nat.mul_comm t m, ← ht]; omega
        have htl : t ≤ NN / (p * q) / m := by
          refine (Nat.le_div_iff_mul_le (by omega)).2 ?_
          omega
        have h4 := List.all_eq_true.1 h2 t (List.mem_range.2 (by omega))
        rw [← htc, ← hnc] at h4
        obtain ⟨b, hb, hne⟩ := bad_ok h4
        exact hne (hn.fermat b hb)
      · have h5 : c0 < m := by simp [Nat.blt] at h0; omega
        rw [Nat.mod_eq_of_lt h5, Nat.mod_eq_of_lt (show c < m by omega)] at h3
        omega
end Go.Proofs.YtcglffigbdglpaaDoor
