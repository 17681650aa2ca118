/- By a prime the g-th power leaves 1 at no more than g remainders; so numbers that are made of small primes, and their quotients, bound g from below. No program is named here. -/
import Derived.Test.YtcglffigbdglpaaDoorKern
namespace Go.Proofs.YtcglffigbdglpaaDoor
open Dia

/-! polynomials, the lowest coefficient first -/
def ev : List Int → Int → Int
  | [], _ => 0
  | c :: cs, x => c + x * ev cs x
def padd : List Int → List Int → List Int
  | [], m => m
  | l, [] => l
  | a :: l, b :: m => (a + b) :: padd l m
theorem ev_padd : ∀ (l m : List Int) (x : Int), ev (padd l m) x = ev l x + ev m x
  | [], m, x => by simp [padd, ev]
  | a :: l, [], x => by simp [padd, ev]
  | a :: l, b :: m, x => by simp only [padd, ev]; rw [ev_padd l m x, Int.mul_add]; omega
theorem padd_len : ∀ (l m : List Int) (k : Nat), l.length ≤ k → m.length ≤ k → (padd l m).length ≤ k
  | [], m, k, _, h => by simpa [padd] using h
  | a :: l, [], k, h, _ => by simpa [padd] using h
  | a :: l, b :: m, k, h1, h2 => by
    simp only [padd, List.length_cons] at *
    have := padd_len l m (k - 1) (by omega) (by omega)
    omega
def scal (a : Int) (l : List Int) : List Int := l.map (a * ·)
theorem ev_scal (a x : Int) : ∀ l : List Int, ev (scal a l) x = a * ev l x
  | [] => by simp [scal, ev]
  | c :: l => by
    have ih := ev_scal a x l
    simp only [scal, List.map_cons, ev] at *
    rw [ih, Int.mul_add]; congr 1; ac_rfl
/-- the quotient by x - a -/
def quo (a : Int) : List Int → List Int
  | [] => []
  | _ :: cs => padd cs (scal a (quo a cs))
theorem quo_len (a : Int) : ∀ l : List Int, (quo a l).length ≤ l.length - 1
  | [] => by simp [quo]
  | c :: cs => by
    have ih := quo_len a cs
    refine padd_len _ _ _ (by simp) ?_
    simp only [scal, List.length_map, List.length_cons]; omega
theorem ev_quo (a x : Int) : ∀ l : List Int, ev l x - ev l a = (x - a) * ev (quo a l) x
  | [] => by simp [quo, ev]
  | c :: cs => by
    have ih := ev_quo a x cs
    simp only [quo, ev]
    rw [ev_padd, ev_scal, Int.mul_add]
    have e1 : (x - a) * (a * ev (quo a cs) x) = a * ((x - a) * ev (quo a cs) x) := by ac_rfl
    rw [e1, ← ih, Int.mul_sub, Int.sub_mul]; omega
def geoL (a : Int) : Nat → List Int
  | 0 => []
  | k + 1 => a ^ (k + 1) :: geoL a k
theorem geoL_len (a : Int) : ∀ k, (geoL a k).length = k
  | 0 => rfl
  | k + 1 => by simp [geoL, geoL_len a k]
theorem ev_geo (a x : Int) : ∀ k, x ^ (k + 1) - a ^ (k + 1) = (x - a) * (x ^ k + ev (geoL a k) x)
  | 0 => by simp [geoL, ev, Int.pow_succ]
  | k + 1 => by
    have ih := ev_geo a x k
    simp only [geoL, ev]
    have e : (x - a) * (x ^ (k + 1) + (a ^ (k + 1) + x * ev (geoL a k) x)) = x * ((x - a) * (x ^ k + ev (geoL a k) x)) + (x - a) * a ^ (k + 1) := by
      rw [Int.pow_succ x k]
      simp only [Int.mul_add, Int.sub_mul]
      generalize ev (geoL a k) x = E
      generalize x ^ k = X
      generalize a ^ (k + 1) = A
      have h1 : x * (x * X) = x * (X * x) := by ac_rfl
      have h2 : x * (a * X) = a * (X * x) := by ac_rfl
      have h3 : x * (x * E) = x * (x * E) := rfl
      have h4 : x * (a * E) = a * (x * E) := by ac_rfl
      rw [Int.mul_sub, Int.mul_sub, h1, h2, h4]; omega
    rw [e, ← ih, Int.mul_sub, Int.sub_mul, Int.pow_succ x (k + 1), Int.pow_succ a (k + 1), Int.mul_comm (x ^ (k + 1)) x, Int.mul_comm (a ^ (k + 1)) a]; omega

theorem roots_le {q : Int} (hq : IsP q) : ∀ (k : Nat) (cs : List Int), cs.length ≤ k → ∀ R : List Int, (∀ x ∈ R, q ∣ x ^ k + ev cs x) → R.Pairwise (fun x y => ¬ q ∣ x - y) → R.length ≤ k
  | 0, cs, hl, R, hR, _ => by
    have : cs = [] := List.length_eq_zero_iff.1 (by omega)
    subst this
    cases R with
    | nil => simp
    | cons x R =>
      have := hR x (by simp)
      simp only [Int.pow_zero, ev, Int.add_zero] at this
      have := Int.le_of_dvd (by omega) this
      have := hq.1
      omega
  | k + 1, cs, hl, [], _, _ => by simp
  | k + 1, cs, hl, a :: R, hR, hd => by
    rw [List.pairwise_cons] at hd
    have h1 := hR a (by simp)
    refine Nat.succ_le_succ (roots_le hq k (padd (geoL a k) (quo a cs)) (padd_len _ _ _ (by rw [geoL_len]; omega) (by have := quo_len a cs; omega)) R (fun x hx => ?_) hd.2)
    have h2 := hR x (by simp [hx])
    have h3 : (x ^ (k + 1) + ev cs x) - (a ^ (k + 1) + ev cs a) = (x - a) * (x ^ k + ev (padd (geoL a k) (quo a cs)) x) := by
      rw [ev_padd, ← Int.add_assoc, Int.mul_add, ← ev_geo, ← ev_quo]; omega
    have h4 := Int.dvd_sub h2 h1
    rw [h3] at h4
    rcases hq.dvd_mul h4 with h5 | h5
    · exact absurd (by have : a - x = -(x - a) := by omega
                       rw [this]; exact Int.dvd_neg.2 h5) (hd.1 x hx)
    · exact h5

theorem roots_one {q : Int} (hq : IsP q) {g : Nat} (hg : 1 ≤ g) (R : List Int) (hR : ∀ x ∈ R, q ∣ x ^ g - 1) (hd : R.Pairwise fun x y => ¬ q ∣ x - y) : R.length ≤ g :=
  roots_le hq g [-1] (by simpa using hg) R (fun x hx => by
    have : x ^ g + ev [-1] x = x ^ g - 1 := by simp [ev]; omega
    rw [this]; exact hR x hx) hd

/-! numbers that are made of the bases -/
def MM : Nat := 7420738134810
theorem dvd_MM {p : Int} (hp : IsP p) (h : p ∣ (MM : Int)) : ∃ b ∈ bN, p = (b : Int) := by
  have hb : ∀ b ∈ bN, ∀ p : Int, IsP p → p ∣ (b : Int) → p = b := by
    intro b hb p hp hd
    have hP : IsP (b : Int) := by
      have h0 : ∀ x ∈ basesL, isB x = true := fun x hx => isB_of ⟨(bases_le hx).1, by have := (bases_le hx).2; omega, Or.inl ⟨x, hx, rfl⟩⟩
      exact isB_small (by have := (bases_le (mem_bN hb)).2; omega) (h0 _ (mem_bN hb))
    exact hp.eq_of_dvd hP hd
  have e : (MM : Int) = 2 * (3 * (5 * (7 * (11 * (13 * (17 * (19 * (23 * (29 * (31 * 37)))))))))) := by decide
  rw [e] at h
  rcases hp.dvd_mul h with h | h
  · exact ⟨2, by decide, hb 2 (by decide) p hp h⟩
  rcases hp.dvd_mul h with h | h
  · exact ⟨3, by decide, hb 3 (by decide) p hp h⟩
  rcases hp.dvd_mul h with h | h
  · exact ⟨5, by decide, hb 5 (by decide) p hp h⟩
  rcases hp.dvd_mul h with h | h
  · exact ⟨7, by decide, hb 7 (by decide) p hp h⟩
  rcases hp.dvd_mul h with h | h
  · exact ⟨11, by decide, hb 11 (by decide) p hp h⟩
  rcases hp.dvd_mul h with h | h
  · exact ⟨13, by decide, hb 13 (by decide) p hp h⟩
  rcases hp.dvd_mul h with h | h
  · exact ⟨17, by decide, hb 17 (by decide) p hp h⟩
  rcases hp.dvd_mul h with h | h
  · exact ⟨19, by decide, hb 19 (by decide) p hp h⟩
  rcases hp.dvd_mul h with h | h
  · exact ⟨23, by decide, hb 23 (by decide) p hp h⟩
  rcases hp.dvd_mul h with h | h
  · exact ⟨29, by decide, hb 29 (by decide) p hp h⟩
  rcases hp.dvd_mul h with h | h
  · exact ⟨31, by decide, hb 31 (by decide) p hp h⟩
  · exact ⟨37, by decide, hb 37 (by decide) p hp h⟩

/-- all bases' g-th powers leave 1 by q -/
def Ones (q g : Nat) : Prop := ∀ b ∈ bN, b ^ g % q = 1
theorem smooth_one {q g : Nat} (hq : 2 ≤ q) (h : Ones q g) : ∀ (s k : Nat), 1 ≤ s → s ∣ MM ^ k → s ^ g % q = 1 := by
  intro s
  induction s using Nat.strongRecOn with
  | _ s ih =>
    intro k hs hd
    by_cases h1 : s = 1
    · subst h1; rw [Nat.one_pow]; exact Nat.mod_eq_of_lt (by omega)
    · obtain ⟨p, hp, hps⟩ := prime_div (m := (s : Int)) (by omega)
      have p2 := hp.1
      have h2 : p ∣ ((MM ^ k : Nat) : Int) := Int.dvd_trans hps (Int.natCast_dvd_natCast.2 hd)
      rw [Int.natCast_pow] at h2
      obtain ⟨b, hb, rfl⟩ := dvd_MM hp (hp.dvd_pow k h2)
      obtain ⟨t, rfl⟩ := Int.natCast_dvd_natCast.1 hps
      have ht : 1 ≤ t := by
        refine Nat.one_le_iff_ne_zero.2 fun hc => ?_
        subst hc; simp at hs
      have hlt : t < b * t := by
        have : 2 * t ≤ b * t := Nat.mul_le_mul_right t (by omega)
        omega
      have h3 := ih t hlt k ht (Nat.dvd_trans (Nat.dvd_mul_left t b) hd)
      rw [Nat.mul_pow, Nat.mul_mod, h b hb, h3]
      exact Nat.mod_eq_of_lt (by omega)

/-! pairs without a common divisor -/
def cop (S : List Nat) (s : Nat) : List (Nat × Nat) := (S.filter fun t => Nat.gcd s t == 1).map fun t => (s, t)
def pairs (S : List Nat) : List (Nat × Nat) := S.flatMap (cop S)
def cnt (S : List Nat) : Nat := (S.map fun s => (S.filter fun t => Nat.gcd s t == 1).length).sum
/-- the same count, cheap for the kernel -/
noncomputable def copK (s : Nat) (l : List Nat) : Nat := List.rec 0 (fun t _ ih => Bool.rec ih (Nat.add ih 1) (Nat.beq (Nat.gcd s t) 1)) l
noncomputable def cntK (S l : List Nat) : Nat := List.rec 0 (fun s _ ih => Nat.add (copK s S) ih) l
theorem copK_eq (s : Nat) : ∀ l : List Nat, copK s l = (l.filter fun t => Nat.gcd s t == 1).length
  | [] => rfl
  | t :: l => by
    have e : copK s (t :: l) = Bool.rec (copK s l) (Nat.add (copK s l) 1) (Nat.beq (Nat.gcd s t) 1) := rfl
    rw [e, List.filter_cons]
    cases hb : Nat.beq (Nat.gcd s t) 1 with
    | true =>
      have h1 : (Nat.gcd s t == 1) = true := by rw [beq_iff_eq]; exact Nat.eq_of_beq_eq_true hb
      rw [if_pos h1]
      show copK s l + 1 = _
      rw [copK_eq s l]; rfl
    | false =>
      have h1 : ¬ (Nat.gcd s t == 1) = true := by rw [beq_iff_eq]; exact Nat.ne_of_beq_eq_false hb
      rw [if_neg h1]
      exact copK_eq s l
theorem cntK_eq (S : List Nat) : ∀ l : List Nat, cntK S l = (l.map fun s => (S.filter fun t => Nat.gcd s t == 1).length).sum
  | [] => rfl
  | s :: l => by
    show copK s S + cntK S l = _
    rw [copK_eq, cntK_eq S l]; rfl
theorem cnt_le {c : Nat} {S : List Nat} (h : Nat.ble c (cntK S S) = true) : c ≤ cnt S := by
  have := Nat.le_of_ble_eq_true h
  rw [cntK_eq] at this
  exact this
theorem pairs_len (S : List Nat) : (pairs S).length = cnt S := by
  unfold pairs cnt
  rw [List.length_flatMap]
  congr 1
  exact List.map_congr_left fun s _ => by simp [cop]
theorem mem_pairs {S : List Nat} {x : Nat × Nat} (h : x ∈ pairs S) : x.1 ∈ S ∧ x.2 ∈ S ∧ Nat.gcd x.1 x.2 = 1 := by
  obtain ⟨s, hs, h⟩ := List.mem_flatMap.1 h
  obtain ⟨t, ht, rfl⟩ := List.mem_map.1 h
  obtain ⟨h1, h2⟩ := List.mem_filter.1 ht
  exact ⟨hs, h1, by simpa using h2⟩
theorem pairs_ne {S : List Nat} (h : S.Pairwise (· < ·)) : (pairs S).Pairwise (· ≠ ·) := by
  unfold pairs
  rw [List.pairwise_flatMap]
  refine ⟨fun s _ => ?_, h.imp fun {a b} hab x hx y hy e => ?_⟩
  · unfold cop
    rw [List.pairwise_map]
    refine (h.sublist List.filter_sublist).imp fun {a b} hab e => ?_
    have := (Prod.ext_iff.1 e).2
    simp at this; omega
  · obtain ⟨t, _, rfl⟩ := List.mem_map.1 hx
    obtain ⟨u, _, rfl⟩ := List.mem_map.1 hy
    have := (Prod.ext_iff.1 e).1
    simp at this; omega
def upB : Nat → List Nat → Bool
  | _, [] => true
  | a, x :: l => Nat.blt a x && upB x l
theorem upB_ok : ∀ (a : Nat) (l : List Nat), upB a l = true → (∀ x ∈ l, a < x) ∧ l.Pairwise (· < ·)
  | a, [], _ => ⟨by simp, List.Pairwise.nil⟩
  | a, x :: l, h => by
    simp only [upB, Bool.and_eq_true] at h
    have h1 : a < x := by have := h.1; simp [Nat.blt] at this; omega
    obtain ⟨h2, h3⟩ := upB_ok x l h.2
    exact ⟨fun y hy => by
      rcases List.mem_cons.1 hy with rfl | hy
      · exact h1
      · have := h2 y hy; omega, List.pairwise_cons.2 ⟨h2, h3⟩⟩
/-- a list of numbers up to X that are made of the bases -/
def listB (X : Nat) (S : List Nat) : Bool := upB 0 S && S.all fun s => Nat.ble s X && Nat.beq (MM ^ 11 % s) 0
structure ListOk (X : Nat) (S : List Nat) : Prop where
  up : S.Pairwise (· < ·)
  pos : ∀ s ∈ S, 1 ≤ s
  le : ∀ s ∈ S, s ≤ X
  dvd : ∀ s ∈ S, s ∣ MM ^ 11
theorem listB_ok {X : Nat} {S : List Nat} (h : listB X S = true) : ListOk X S := by
  unfold listB at h
  obtain ⟨h1, h2⟩ := Bool.and_eq_true_iff.1 h
  obtain ⟨h3, h4⟩ := upB_ok _ _ h1
  have h5 := List.all_eq_true.1 h2
  refine ⟨h4, fun s hs => h3 s hs, fun s hs => ?_, fun s hs => ?_⟩
  · exact Nat.le_of_ble_eq_true (Bool.and_eq_true_iff.1 (h5 s hs)).1
  · exact Nat.dvd_of_mod_eq_zero (Nat.eq_of_beq_eq_true (Bool.and_eq_true_iff.1 (h5 s hs)).2)

theorem even_neg_pow (x : Int) {g : Nat} (h : g % 2 = 0) : (-x) ^ g = x ^ g := by
  obtain ⟨k, rfl⟩ : ∃ k, g = 2 * k := ⟨g / 2, by omega⟩
  rw [Int.pow_mul, Int.pow_mul]
  congr 1
  rw [Int.pow_succ, Int.pow_succ, Int.pow_succ, Int.pow_succ, Int.pow_zero, Int.pow_zero]; simp [Int.neg_mul_neg]

theorem dvd_of_mod_one {q x : Nat} (h : x % q = 1) : (q : Int) ∣ (x : Int) - 1 := by
  refine ⟨((x / q : Nat) : Int), ?_⟩
  have h1 := Nat.div_add_mod x q
  rw [h] at h1
  rw [← Int.natCast_mul]; omega

theorem count_le {q g X : Nat} {S : List Nat} (hq : IsP (q : Int)) (q37 : X < q) (hg : 1 ≤ g) (he : g % 2 = 0) (h : Ones q g) (hS : ListOk X S) (hX : 2 * (X * X) < q) : 2 * cnt S ≤ g := by
  have q2 := hq.1
  -- inverses
  have hinv : ∀ t : Nat, ∃ u : Int, t ∈ S → (q : Int) ∣ (t : Int) * u - 1 := by
    intro t
    by_cases ht : t ∈ S
    · have hnd : ¬ (q : Int) ∣ (t : Int) := fun hc => by
        have := Int.le_of_dvd (by have := hS.pos t ht; omega) hc
        have := hS.le t ht; omega
      obtain ⟨u, hu⟩ := inverse (hq.coprime hnd)
      exact ⟨u, fun _ => dvd_sub_of_mod hu⟩
    · exact ⟨0, fun hc => absurd hc ht⟩
  let inv : Nat → Int := fun t => Classical.choose (hinv t)
  have hi : ∀ t ∈ S, (q : Int) ∣ (t : Int) * inv t - 1 := fun t ht => Classical.choose_spec (hinv t) ht
  let ρ : Nat × Nat → Int := fun x => (x.1 : Int) * inv x.2
  have hpow : ∀ t ∈ S, (q : Int) ∣ (t : Int) ^ g - 1 := fun t ht => by
    have := dvd_of_mod_one (smooth_one (by omega) h t 11 (hS.pos t ht) (hS.dvd t ht))
    rwa [Int.natCast_pow] at this
  have hinvpow : ∀ t ∈ S, (q : Int) ∣ (inv t) ^ g - 1 := fun t ht => by
    have h1 := Int.dvd_trans (hi t ht) (dvd_pow_sub ((t : Int) * inv t) g)
    rw [Int.mul_pow] at h1
    have h2 := hpow t ht
    have e : (inv t) ^ g - 1 = ((t : Int) ^ g * inv t ^ g - 1) - ((t : Int) ^ g - 1) * inv t ^ g := by rw [Int.sub_mul]; omega
    rw [e]; exact Int.dvd_sub h1 (Int.dvd_trans h2 (Int.dvd_mul_right _ _))
  have hroot : ∀ x ∈ pairs S, (q : Int) ∣ ρ x ^ g - 1 := fun x hx => by
    obtain ⟨h1, h2, _⟩ := mem_pairs hx
    have e : ρ x ^ g - 1 = ((x.1 : Int) ^ g - 1) * inv x.2 ^ g + (inv x.2 ^ g - 1) := by
      show ((x.1 : Int) * inv x.2) ^ g - 1 = _
      rw [Int.mul_pow, Int.sub_mul]; omega
    rw [e]; exact Int.dvd_add (Int.dvd_trans (hpow _ h1) (Int.dvd_mul_right _ _)) (hinvpow _ h2)
  -- the products
  have hprod : ∀ x ∈ pairs S, ∀ y ∈ pairs S, ((x.1 * y.2 : Nat) : Int) ≤ (X * X : Nat) ∧ 1 ≤ ((x.1 * y.2 : Nat) : Int) := fun x hx y hy => by
    obtain ⟨h1, _, _⟩ := mem_pairs hx
    obtain ⟨_, h2, _⟩ := mem_pairs hy
    have a1 : x.1 * y.2 ≤ X * X := Nat.mul_le_mul (hS.le _ h1) (hS.le _ h2)
    have a2 : 1 * 1 ≤ x.1 * y.2 := Nat.mul_le_mul (hS.pos _ h1) (hS.pos _ h2)
    omega
  have hcross : ∀ x ∈ pairs S, ∀ y ∈ pairs S, ∀ σ : Int, (q : Int) ∣ ρ x - σ * ρ y → (q : Int) ∣ ((x.1 * y.2 : Nat) : Int) - σ * ((y.1 * x.2 : Nat) : Int) := fun x hx y hy σ hd => by
    obtain ⟨_, h2, _⟩ := mem_pairs hx
    obtain ⟨_, k2, _⟩ := mem_pairs hy
    have i1 := hi _ h2
    have i2 := hi _ k2
    rw [Int.natCast_mul, Int.natCast_mul]
    have e : (x.1 : Int) * (y.2 : Int) - σ * ((y.1 : Int) * (x.2 : Int)) =
        ((x.2 : Int) * (y.2 : Int)) * (ρ x - σ * ρ y) - ((x.2 : Int) * inv x.2 - 1) * ((x.1 : Int) * (y.2 : Int)) + ((y.2 : Int) * inv y.2 - 1) * (σ * ((y.1 : Int) * (x.2 : Int))) := by
      show _ = ((x.2 : Int) * (y.2 : Int)) * ((x.1 : Int) * inv x.2 - σ * ((y.1 : Int) * inv y.2)) - _ + _
      generalize (x.1 : Int) = a
      generalize (x.2 : Int) = b
      generalize (y.1 : Int) = c
      generalize (y.2 : Int) = d
      generalize inv x.2 = u
      generalize inv y.2 = v
      rw [Int.mul_sub, Int.sub_mul, Int.sub_mul]
      have e1 : b * d * (a * u) = b * u * (a * d) := by ac_rfl
      have e2 : b * d * (σ * (c * v)) = d * v * (σ * (c * b)) := by ac_rfl
      rw [e1, e2]; omega
    rw [e]
    exact Int.dvd_add (Int.dvd_sub (Int.dvd_trans hd (Int.dvd_mul_left _ _)) (Int.dvd_trans i1 (Int.dvd_mul_right _ _))) (Int.dvd_trans i2 (Int.dvd_mul_right _ _))
  have hplus : ∀ x ∈ pairs S, ∀ y ∈ pairs S, ¬ (q : Int) ∣ ρ x - (-1) * ρ y := fun x hx y hy hd => by
    have h1 := hcross x hx y hy (-1) hd
    obtain ⟨a1, a2⟩ := hprod x hx y hy
    obtain ⟨b1, b2⟩ := hprod y hy x hx
    have := Int.le_of_dvd (by omega) h1
    omega
  have hminus : ∀ x ∈ pairs S, ∀ y ∈ pairs S, x ≠ y → ¬ (q : Int) ∣ ρ x - ρ y := fun x hx y hy hne hd => by
    have h1 := hcross x hx y hy 1 (by rwa [Int.one_mul])
    obtain ⟨a1, a2⟩ := hprod x hx y hy
    obtain ⟨b1, b2⟩ := hprod y hy x hx
    have h2 : x.1 * y.2 = y.1 * x.2 := by
      rcases Int.lt_trichotomy ((x.1 * y.2 : Nat) : Int) ((y.1 * x.2 : Nat) : Int) with h3 | h3 | h3
      · have h4 := Int.le_of_dvd (a := (q : Int)) (by omega) (Int.dvd_neg.2 h1)
        omega
      · exact Int.ofNat.inj h3
      · have h4 := Int.le_of_dvd (by omega) h1
        omega
    obtain ⟨p1, _, c1⟩ := mem_pairs hx
    obtain ⟨p2, _, c2⟩ := mem_pairs hy
    have d1 : x.1 ∣ y.1 := Nat.Coprime.dvd_of_dvd_mul_right (show Nat.Coprime x.1 x.2 from c1) ⟨y.2, h2.symm⟩
    have d2 : y.1 ∣ x.1 := Nat.Coprime.dvd_of_dvd_mul_right (show Nat.Coprime y.1 y.2 from c2) ⟨x.2, h2⟩
    have e1 : x.1 = y.1 := Nat.dvd_antisymm d1 d2
    have e2 : y.2 = x.2 := by
      rw [e1] at h2
      exact Nat.eq_of_mul_eq_mul_left (hS.pos _ p2) h2
    exact hne (Prod.ext e1 e2.symm)
  have hlen := roots_one hq hg ((pairs S).map ρ ++ (pairs S).map fun x => - ρ x) ?_ ?_
  · rw [List.length_append, List.length_map, List.length_map, pairs_len] at hlen
    omega
  · intro x hx
    rcases List.mem_append.1 hx with hx | hx
    · obtain ⟨y, hy, rfl⟩ := List.mem_map.1 hx
      exact hroot y hy
    · obtain ⟨y, hy, rfl⟩ := List.mem_map.1 hx
      show (q : Int) ∣ (- ρ y) ^ g - 1
      rw [even_neg_pow _ he]; exact hroot y hy
  · have hne := pairs_ne hS.up
    refine List.pairwise_append.2 ⟨?_, ?_, ?_⟩
    · rw [List.pairwise_map]
      exact hne.imp_of_mem fun {a b} ha hb hab => hminus a ha b hb hab
    · rw [List.pairwise_map]
      refine hne.imp_of_mem fun {a b} ha hb hab hd => hminus b hb a ha (Ne.symm hab) ?_
      have : ρ b - ρ a = - ρ a - - ρ b := by omega
      rw [this]; exact hd
    · intro x hx y hy hd
      obtain ⟨a, ha, rfl⟩ := List.mem_map.1 hx
      obtain ⟨b, hb, rfl⟩ := List.mem_map.1 hy
      refine hplus a ha b hb ?_
      have : ρ a - (-1) * ρ b = ρ a - - ρ b := by omega
      rw [this]; exact hd
end Go.Proofs.YtcglffigbdglpaaDoor
