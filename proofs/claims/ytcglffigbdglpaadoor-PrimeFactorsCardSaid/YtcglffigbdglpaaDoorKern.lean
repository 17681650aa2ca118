/- Finite checks over numbers without great effort for the kernel: powers by modulus, ranges by halving, lists by parts; what each says when it comes out true. No program is named here. -/
import Derived.Test.YtcglffigbdglpaaDoorSmall
namespace Go.Proofs.YtcglffigbdglpaaDoor

noncomputable def force {α : Type} (n : Nat) (f : Nat → α) : α := Nat.rec (f 0) (fun m _ => f (Nat.succ m)) n
theorem force_eq {α : Type} (n : Nat) (f : Nat → α) : force n f = f n := by cases n <;> rfl

/-- a range by halving -/
noncomputable def bin (f : Nat → Bool) (k : Nat) : Nat → Bool := Nat.rec (fun lo => f lo) (fun k ih lo => Bool.rec false (ih (Nat.add lo (Nat.pow 2 k))) (ih lo)) k
theorem bin_ok (f : Nat → Bool) : ∀ (k lo : Nat), bin f k lo = true → ∀ i, lo ≤ i → i < lo + 2 ^ k → f i = true
  | 0, lo, h, i, h1, h2 => by
    have : i = lo := by simp at h2; omega
    subst this; exact h
  | k + 1, lo, h, i, h1, h2 => by
    have e : bin f (k + 1) lo = Bool.rec false (bin f k (Nat.add lo (Nat.pow 2 k))) (bin f k lo) := rfl
    rw [e] at h
    cases hb : bin f k lo with
    | false => rw [hb] at h; cases h
    | true =>
      rw [hb] at h
      by_cases c : i < lo + 2 ^ k
      · exact bin_ok f k lo hb i h1 c
      · refine bin_ok f k _ h i ?_ ?_
        · show lo + 2 ^ k ≤ i; omega
        · show i < lo + 2 ^ k + 2 ^ k; rw [Nat.pow_succ] at h2; omega

/-- powers by modulus: the exponent in digits of 256 -/
def pm (b e q : Nat) : Nat := Nat.mod (Nat.mul (Nat.pow (Nat.mod (Nat.pow b (Nat.div e 256)) q) 256) (Nat.pow b (Nat.mod e 256))) q
theorem pm_eq (b e q : Nat) : pm b e q = b ^ e % q := by
  show ((b ^ (e / 256) % q) ^ 256 * b ^ (e % 256)) % q = b ^ e % q
  rw [Nat.mul_mod, ← Nat.pow_mod, ← Nat.mul_mod, ← Nat.pow_mul, ← Nat.pow_add]
  congr 2; omega
def pmk : Nat → Nat → Nat → Nat → Nat
  | 0, b, e, q => Nat.mod (Nat.pow b e) q
  | k + 1, b, e, q => Nat.mod (Nat.mul (Nat.pow (pmk k b (Nat.div e 256) q) 256) (Nat.pow b (Nat.mod e 256))) q
theorem pmk_eq : ∀ k b e q, pmk k b e q = b ^ e % q
  | 0, _, _, _ => rfl
  | k + 1, b, e, q => by
    show ((pmk k b (e / 256) q) ^ 256 * b ^ (e % 256)) % q = b ^ e % q
    rw [pmk_eq k, Nat.mul_mod, ← Nat.pow_mod, ← Nat.mul_mod, ← Nat.pow_mul, ← Nat.pow_add]
    congr 2; omega

/-- does some base's power not leave 1? -/
noncomputable def anyB (e q : Nat) (l : List Nat) : Bool := List.rec false (fun b _ ih => Bool.rec true ih (Nat.beq (pm b e q) 1)) l
theorem anyB_ok (e q : Nat) : ∀ l, anyB e q l = true → ∃ b ∈ l, b ^ e % q ≠ 1
  | [], h => by cases h
  | b :: l, h => by
    have e1 : anyB e q (b :: l) = Bool.rec true (anyB e q l) (Nat.beq (pm b e q) 1) := rfl
    rw [e1] at h
    cases hb : Nat.beq (pm b e q) 1 with
    | false =>
      refine ⟨b, by simp, fun hc => ?_⟩
      rw [pm_eq, hc] at hb; cases hb
    | true =>
      rw [hb] at h
      obtain ⟨c, hc, hn⟩ := anyB_ok e q l h
      exact ⟨c, by simp [hc], hn⟩
noncomputable def allR (q e1 : Nat) (l : List Nat) : Bool := List.rec true (fun r _ ih => Bool.rec ih (Bool.rec false ih (force (Nat.div e1 r) fun e => anyB e q bN)) (Nat.beq (Nat.mod e1 r) 0)) l
theorem allR_ok (q e1 : Nat) : ∀ l, allR q e1 l = true → ∀ r ∈ l, e1 % r = 0 → ∃ b ∈ bN, b ^ (e1 / r) % q ≠ 1
  | [], _ => by simp
  | r :: l, h => by
    have e : allR q e1 (r :: l) = Bool.rec (allR q e1 l) (Bool.rec false (allR q e1 l) (force (Nat.div e1 r) fun e => anyB e q bN)) (Nat.beq (Nat.mod e1 r) 0) := rfl
    rw [e, force_eq] at h
    have key : allR q e1 l = true ∧ (e1 % r = 0 → ∃ b ∈ bN, b ^ (e1 / r) % q ≠ 1) := by
      cases hm : Nat.beq (Nat.mod e1 r) 0 with
      | false =>
        rw [hm] at h
        exact ⟨h, fun hc => by rw [show Nat.mod e1 r = 0 from hc] at hm; cases hm⟩
      | true =>
        rw [hm] at h
        cases hb : anyB (Nat.div e1 r) q bN with
        | false => rw [hb] at h; cases h
        | true => rw [hb] at h; exact ⟨h, fun _ => anyB_ok _ _ _ hb⟩
    intro x hx
    rcases List.mem_cons.1 hx with rfl | hx
    · exact key.2
    · exact allR_ok q e1 l key.1 x hx

def NN : Nat := 1099511627776
def WG : Nat := 1236789689135
/-- does a number fail Fermat's test by some base? -/
def bad (n : Nat) : Bool := bN.any fun b => pmk 4 b (n - 1) n != 1
theorem bad_ok {n : Nat} (h : bad n = true) : ∃ b ∈ bN, b ^ (n - 1) % n ≠ 1 := by
  obtain ⟨b, hb, h1⟩ := List.any_eq_true.1 h
  rw [pmk_eq] at h1
  exact ⟨b, hb, by simpa using h1⟩
/-- the few numbers at which a base's power leaves 1 too early -/
def rare (q : Nat) : Bool := (List.range 160).any (fun d => 2 ≤ d && d < q && q % d == 0) ||
  (List.range 37).all fun D => D < 2 || (q - 1) % D != 0 || bN.any (fun b => pmk 4 b ((q - 1) / D) q != 1) ||
    (List.range (NN / (q * ((q - 1) / D)) + 1)).all fun t => t == 0 || bad (q * (1 + t * ((q - 1) / D)))
def Few (q D : Nat) : Prop := (∃ b ∈ bN, b ^ ((q - 1) / D) % q ≠ 1) ∨ ∀ t, 1 ≤ t → t ≤ NN / (q * ((q - 1) / D)) → ∃ b ∈ bN, b ^ (q * (1 + t * ((q - 1) / D)) - 1) % (q * (1 + t * ((q - 1) / D))) ≠ 1
theorem rare_ok {q : Nat} (h : rare q = true) : (∃ d, 2 ≤ d ∧ d < q ∧ q % d = 0) ∨ ∀ D, 2 ≤ D → D ≤ 36 → (q - 1) % D = 0 → Few q D := by
  unfold rare at h
  rcases Bool.or_eq_true_iff.1 h with h | h
  · obtain ⟨d, _, h1⟩ := List.any_eq_true.1 h
    simp only [Bool.and_eq_true, decide_eq_true_eq, beq_iff_eq] at h1
    exact Or.inl ⟨d, h1.1.1, h1.1.2, h1.2⟩
  · refine Or.inr fun D h2 h36 hD => ?_
    have h1 := List.all_eq_true.1 h D (List.mem_range.2 (by omega))
    rcases Bool.or_eq_true_iff.1 h1 with h1 | h1
    · rcases Bool.or_eq_true_iff.1 h1 with h1 | h1
      · rcases Bool.or_eq_true_iff.1 h1 with h1 | h1
        · simp at h1; omega
        · simp at h1; omega
      · obtain ⟨b, hb, h3⟩ := List.any_eq_true.1 h1
        rw [pmk_eq] at h3
        exact Or.inl ⟨b, hb, by simpa using h3⟩
    · refine Or.inr fun t t1 tT => ?_
      have h3 := List.all_eq_true.1 h1 t (List.mem_range.2 (by omega))
      rcases Bool.or_eq_true_iff.1 h3 with h3 | h3
      · simp at h3; omega
      · exact bad_ok h3

noncomputable def tst (R : List Nat) (q : Nat) : Bool := Bool.rec true (Bool.rec (rare q) true (force (Nat.pred q) fun e1 => allR q e1 R)) (Nat.beq (Nat.gcd q WG) 1)
/-- what a range's check says of a number -/
def Good (R : List Nat) (q : Nat) : Prop := (∃ d, 2 ≤ d ∧ d < q ∧ q % d = 0) ∨ (∀ r ∈ R, (q - 1) % r = 0 → ∃ b ∈ bN, b ^ ((q - 1) / r) % q ≠ 1) ∨ ∀ D, 2 ≤ D → D ≤ 36 → (q - 1) % D = 0 → Few q D
theorem tst_ok {R : List Nat} {q : Nat} (h : tst R q = true) (hg : Nat.gcd q WG = 1) : Good R q := by
  unfold tst at h
  rw [force_eq, show Nat.beq (Nat.gcd q WG) 1 = true by rw [hg]; rfl] at h
  cases ha : allR q (Nat.pred q) R with
  | true => exact Or.inr (Or.inl (allR_ok q _ R ha))
  | false =>
    rw [ha] at h
    rcases rare_ok h with h | h
    · exact Or.inl h
    · exact Or.inr (Or.inr h)
noncomputable def two (f : Nat → Bool) (i : Nat) : Bool := force (Nat.add (Nat.mul 6 i) 1) fun q => Bool.rec false (force (Nat.add q 4) fun q => f q) (f q)
theorem two_ok {f : Nat → Bool} {i : Nat} (h : two f i = true) : f (6 * i + 1) = true ∧ f (6 * i + 5) = true := by
  unfold two at h
  rw [force_eq, force_eq] at h
  show f (Nat.add (Nat.mul 6 i) 1) = true ∧ f (Nat.add (Nat.add (Nat.mul 6 i) 1) 4) = true
  cases ha : f (Nat.add (Nat.mul 6 i) 1) with
  | true => rw [ha] at h; exact ⟨rfl, h⟩
  | false => rw [ha] at h; cases h
/-- a whole range -/
theorem range_ok {f : Nat → Bool} {k lo q : Nat} (h : bin (two f) k lo = true) (h1 : 6 * lo ≤ q) (h2 : q < 6 * (lo + 2 ^ k)) (h6 : q % 6 = 1 ∨ q % 6 = 5) : f q = true := by
  have h3 := two_ok (bin_ok _ k lo h (q / 6) (by omega) (by omega))
  rcases h6 with h6 | h6
  · rw [show q = 6 * (q / 6) + 1 from by omega]; exact h3.1
  · rw [show q = 6 * (q / 6) + 5 from by omega]; exact h3.2

/-- no square: 2 or 3 -/
noncomputable def sq (q : Nat) : Bool := Bool.rec true (Bool.rec true (Bool.rec true false (Nat.beq (pm 3 (Nat.pred q) (Nat.mul q q)) 1)) (Nat.beq (pm 2 (Nat.pred q) (Nat.mul q q)) 1)) (Nat.beq (Nat.gcd q WG) 1)
theorem sq_ok {q : Nat} (h : sq q = true) (hg : Nat.gcd q WG = 1) : ¬ (2 ^ (q - 1) % (q * q) = 1 ∧ 3 ^ (q - 1) % (q * q) = 1) := by
  rintro ⟨h2, h3⟩
  unfold sq at h
  rw [show Nat.beq (Nat.gcd q WG) 1 = true by rw [hg]; rfl, pm_eq, pm_eq, show 2 ^ (Nat.pred q) % (Nat.mul q q) = 1 from h2, show 3 ^ (Nat.pred q) % (Nat.mul q q) = 1 from h3] at h
  cases h
end Go.Proofs.YtcglffigbdglpaaDoor
