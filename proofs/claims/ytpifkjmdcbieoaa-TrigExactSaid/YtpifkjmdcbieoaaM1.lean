/- Merged texts: Ser, Base, Flt, Ieee, Ieee2, Ieee3, Ref3a, Long, PutF. -/
import Derived.Test.YtpifkjmdcbieoaaProg
import Derived.WalkKit
import Derived.ProofKit
import Derived.OpenShut
import Derived.WalkLawsBesides
import Derived.Lib.Hide
import Derived.Below
import Derived.WalkSmall
import Derived.ChangeSame
import Derived.Laws.FloatArith
/- Cosine and sine by their series over the rationals: sums of angles (layer 5). No program is named here. -/
namespace Go.Proofs.Ytpifkjmdcbieoaa
def sumR (f : Nat → Rat) : Nat → Rat
  | 0 => 0
  | n + 1 => sumR f n + f n
def tR (x : Rat) : Nat → Rat
  | 0 => 1
  | k + 1 => tR x k * x / ((k : Rat) + 1)
def eR : Bool → Nat → Rat
  | false, 0 => 1
  | true, 0 => 0
  | false, k + 1 => - eR true k
  | true, k + 1 => eR false k
theorem eR_add : ∀ j k, eR false (j + k) = eR false j * eR false k - eR true j * eR true k ∧ eR true (j + k) = eR true j * eR false k + eR false j * eR true k := by
  intro j k
  induction j with
  | zero => 
    rw [Nat.zero_add]
    simp only [eR]
    constructor <;> grind
  | succ j ih =>
    rw [show j + 1 + k = (j + k) + 1 from by omega]
    simp only [eR]
    obtain ⟨h1, h2⟩ := ih
    constructor <;> grind
def cR (N : Nat) (x : Rat) : Rat := sumR (fun k => eR false k * tR x k) N
def sR (N : Nat) (x : Rat) : Rat := sumR (fun k => eR true k * tR x k) N
theorem sumR_congr {f g : Nat → Rat} : ∀ n, (∀ i, i < n → f i = g i) → sumR f n = sumR g n
  | 0, _ => rfl
  | n + 1, h => by
    show sumR f n + f n = sumR g n + g n
    rw [sumR_congr n (fun i hi => h i (by omega)), h n (by omega)]
theorem sumR_add (f g : Nat → Rat) : ∀ n, sumR (fun i => f i + g i) n = sumR f n + sumR g n
  | 0 => by show (0 : Rat) = 0 + 0; grind
  | n + 1 => by
    show sumR _ n + (f n + g n) = (sumR f n + f n) + (sumR g n + g n)
    rw [sumR_add f g n]; grind
theorem sumR_mul (a : Rat) (f : Nat → Rat) : ∀ n, sumR (fun i => a * f i) n = a * sumR f n
  | 0 => by simp [sumR]
  | n + 1 => by
    show sumR _ n + a * f n = a * (sumR f n + f n)
    rw [sumR_mul a f n]; grind
theorem sumR_first (f : Nat → Rat) : ∀ n, sumR f (n + 1) = f 0 + sumR (fun i => f (i + 1)) n
  | 0 => by show (0 : Rat) + f 0 = f 0 + 0; grind
  | n + 1 => by
    show sumR f (n + 1) + f (n + 1) = f 0 + (sumR _ n + f (n + 1))
    rw [sumR_first f n]; grind
/-- a triangle by its diagonals, and by its rows -/
theorem sumR_tri (F : Nat → Nat → Rat) : ∀ N, sumR (fun m => sumR (fun j => F j (m - j)) (m + 1)) N = sumR (fun j => sumR (F j) (N - j)) N
  | 0 => rfl
  | N + 1 => by
    show sumR (fun m => sumR (fun j => F j (m - j)) (m + 1)) N + sumR (fun j => F j (N - j)) (N + 1) = sumR (fun j => sumR (F j) (N + 1 - j)) (N + 1)
    rw [sumR_tri F N]
    have e : sumR (fun j => sumR (F j) (N + 1 - j)) (N + 1) = sumR (fun j => sumR (F j) (N - j) + F j (N - j)) (N + 1) := by
      refine sumR_congr _ fun i hi => ?_
      rw [show N + 1 - i = (N - i) + 1 from by omega]; rfl
    rw [e, sumR_add]
    show _ = (sumR (fun j => sumR (F j) (N - j)) N + sumR (F N) (N - N)) + _
    rw [Nat.sub_self]
    show _ = (_ + 0) + _
    grind
theorem tR_succ (x : Rat) (k : Nat) : ((k : Rat) + 1) * tR x (k + 1) = tR x k * x := by
  show ((k : Rat) + 1) * (tR x k * x / ((k : Rat) + 1)) = _
  have : ((k : Rat) + 1) ≠ 0 := by
    have : (0 : Rat) ≤ (k : Rat) := by exact_mod_cast Nat.zero_le k
    grind
  grind

theorem natR (k : Nat) : (0 : Rat) ≤ (k : Rat) := by exact_mod_cast Nat.zero_le k
theorem tR_plus (x y : Rat) : ∀ m, tR (x + y) m = sumR (fun j => tR x j * tR y (m - j)) (m + 1)
  | 0 => by show (1 : Rat) = 0 + 1 * 1; grind
  | m + 1 => by
    have ih := tR_plus x y m
    have h0 := tR_succ (x + y) m
    have hne := natR m
    have a1 : ((m : Rat) + 1) * sumR (fun j => tR x j * tR y (m + 1 - j)) (m + 2) = sumR (fun j => (j : Rat) * (tR x j * tR y (m + 1 - j))) (m + 2) + sumR (fun j => ((m + 1 - j : Nat) : Rat) * (tR x j * tR y (m + 1 - j))) (m + 2) := by
      rw [← sumR_mul, ← sumR_add]
      refine sumR_congr _ fun i hi => ?_
      have e : ((i : Rat)) + ((m + 1 - i : Nat) : Rat) = (m : Rat) + 1 := by
        have : i + (m + 1 - i) = m + 1 := by omega
        exact_mod_cast this
      show _ = (i : Rat) * _ + _ * _
      rw [← e]; grind
    have a2 : sumR (fun j => (j : Rat) * (tR x j * tR y (m + 1 - j))) (m + 2) = x * sumR (fun j => tR x j * tR y (m - j)) (m + 1) := by
      rw [sumR_first, ← sumR_mul]
      have : sumR (fun i => ((i + 1 : Nat) : Rat) * (tR x (i + 1) * tR y (m + 1 - (i + 1)))) (m + 1) = sumR (fun i => x * (tR x i * tR y (m - i))) (m + 1) := by
        refine sumR_congr _ fun i hi => ?_
        have h := tR_succ x i
        rw [show m + 1 - (i + 1) = m - i from by omega]
        have c : ((i + 1 : Nat) : Rat) = (i : Rat) + 1 := by exact_mod_cast rfl
        rw [c]
        grind
      rw [this]
      have z : ((0 : Nat) : Rat) = 0 := by exact_mod_cast rfl
      rw [z]; grind
    have a3 : sumR (fun j => ((m + 1 - j : Nat) : Rat) * (tR x j * tR y (m + 1 - j))) (m + 2) = y * sumR (fun j => tR x j * tR y (m - j)) (m + 1) := by
      show sumR _ (m + 1) + ((m + 1 - (m + 1) : Nat) : Rat) * _ = _
      rw [Nat.sub_self, ← sumR_mul]
      have : sumR (fun j => ((m + 1 - j : Nat) : Rat) * (tR x j * tR y (m + 1 - j))) (m + 1) = sumR (fun j => y * (tR x j * tR y (m - j))) (m + 1) := by
        refine sumR_congr _ fun i hi => ?_
        have h := tR_succ y (m - i)
        rw [show m + 1 - i = (m - i) + 1 from by omega]
        have c : ((m - i + 1 : Nat) : Rat) = ((m - i : Nat) : Rat) + 1 := by exact_mod_cast rfl
        rw [c]
        grind
      rw [this]
      have z : ((0 : Nat) : Rat) = 0 := by exact_mod_cast rfl
      rw [z]; grind
    have a4 : ((m : Rat) + 1) * sumR (fun j => tR x j * tR y (m + 1 - j)) (m + 2) = ((m : Rat) + 1) * tR (x + y) (m + 1) := by
      rw [a1, a2, a3, h0, ih]; grind
    have : tR (x + y) (m + 1) = sumR (fun j => tR x j * tR y (m + 1 - j)) (m + 2) := by
      generalize sumR (fun j => tR x j * tR y (m + 1 - j)) (m + 2) = A at a4 ⊢
      generalize tR (x + y) (m + 1) = B at a4 ⊢
      have hne : ((m : Rat) + 1) ≠ 0 := by grind
      have : A = B := by
        have e1 : A = (((m : Rat) + 1) * A) / ((m : Rat) + 1) := by grind
        have e2 : B = (((m : Rat) + 1) * B) / ((m : Rat) + 1) := by grind
        rw [e1, e2, a4]
      exact this.symm
    exact this
theorem tR_neg (x : Rat) : ∀ k, eR false k * tR (-x) k = eR false k * tR x k ∧ eR true k * tR (-x) k = - (eR true k * tR x k)
  | 0 => by simp only [eR, tR]; constructor <;> grind
  | k + 1 => by
    obtain ⟨h1, h2⟩ := tR_neg x k
    have hne : ((k : Rat) + 1) ≠ 0 := by have := natR k; grind
    simp only [eR, tR]
    constructor <;> grind
theorem sumR_neg (f : Nat → Rat) : ∀ n, sumR (fun i => - f i) n = - sumR f n
  | 0 => by show (0 : Rat) = -0; grind
  | n + 1 => by
    show sumR _ n + - f n = - (sumR f n + f n)
    rw [sumR_neg f n]; grind
theorem cR_neg (N : Nat) (x : Rat) : cR N (-x) = cR N x := sumR_congr _ fun i _ => (tR_neg x i).1
theorem sR_neg (N : Nat) (x : Rat) : sR N (-x) = - sR N x := by
  unfold sR
  rw [← sumR_neg]
  exact sumR_congr _ fun i _ => (tR_neg x i).2
theorem tR_zero : ∀ k, tR 0 (k + 1) = 0
  | k => by simp only [tR]; grind
theorem cR_zero (N : Nat) : cR (N + 1) 0 = 1 := by
  unfold cR
  rw [sumR_first, sumR_congr (g := fun _ => 0) N (fun i _ => by rw [tR_zero]; grind)]
  have : ∀ n, sumR (fun _ => 0) n = 0 := fun n => by
    induction n with
    | zero => rfl
    | succ n ih => show sumR _ n + 0 = 0; rw [ih]; grind
  rw [this]; simp only [eR, tR]; grind
theorem sR_zero (N : Nat) : sR (N + 1) 0 = 0 := by
  unfold sR
  rw [sumR_first, sumR_congr (g := fun _ => 0) N (fun i _ => by rw [tR_zero]; grind)]
  have : ∀ n, sumR (fun _ => 0) n = 0 := fun n => by
    induction n with
    | zero => rfl
    | succ n ih => show sumR _ n + 0 = 0; rw [ih]; grind
  rw [this]; simp only [eR, tR]; grind
/-- the sum of a product, by rows -/
theorem sumR_prod (f g : Nat → Rat) (M : Nat) : ∀ N, sumR f N * sumR g M = sumR (fun j => sumR (fun k => f j * g k) M) N
  | 0 => by show (0 : Rat) * _ = 0; grind
  | N + 1 => by
    show (sumR f N + f N) * sumR g M = sumR _ N + sumR (fun k => f N * g k) M
    rw [← sumR_prod f g M N, sumR_mul]; grind
theorem sumR_sub (f g : Nat → Rat) (n : Nat) : sumR (fun i => f i - g i) n = sumR f n - sumR g n := by
  have h1 := sumR_add f (fun i => - g i) n
  have h2 := sumR_neg g n
  have : sumR (fun i => f i - g i) n = sumR (fun i => f i + - g i) n := sumR_congr _ fun i _ => by grind
  rw [this, h1, h2]; grind
/-- the sum of cosines' series is that of the products, less a tail -/
theorem cR_tri (N : Nat) (x y : Rat) : cR N (x + y) = sumR (fun j => sumR (fun k => eR false (j + k) * (tR x j * tR y k)) (N - j)) N := by
  rw [← sumR_tri]
  refine sumR_congr _ fun m hm => ?_
  rw [tR_plus, ← sumR_mul]
  refine sumR_congr _ fun j hj => ?_
  rw [show j + (m - j) = m from by omega]
theorem sR_tri (N : Nat) (x y : Rat) : sR N (x + y) = sumR (fun j => sumR (fun k => eR true (j + k) * (tR x j * tR y k)) (N - j)) N := by
  rw [← sumR_tri]
  refine sumR_congr _ fun m hm => ?_
  rw [tR_plus, ← sumR_mul]
  refine sumR_congr _ fun j hj => ?_
  rw [show j + (m - j) = m from by omega]
theorem cR_box (N : Nat) (x y : Rat) : cR N x * cR N y - sR N x * sR N y = sumR (fun j => sumR (fun k => eR false (j + k) * (tR x j * tR y k)) N) N := by
  unfold cR sR
  rw [sumR_prod, sumR_prod, ← sumR_sub]
  refine sumR_congr _ fun j _ => ?_
  show sumR _ N - sumR _ N = _
  rw [← sumR_sub]
  refine sumR_congr _ fun k _ => ?_
  have h := (eR_add j k).1
  grind
theorem sR_box (N : Nat) (x y : Rat) : sR N x * cR N y + cR N x * sR N y = sumR (fun j => sumR (fun k => eR true (j + k) * (tR x j * tR y k)) N) N := by
  unfold cR sR
  rw [sumR_prod, sumR_prod, ← sumR_add]
  refine sumR_congr _ fun j _ => ?_
  show sumR _ N + sumR _ N = _
  rw [← sumR_add]
  refine sumR_congr _ fun k _ => ?_
  have h := (eR_add j k).2
  grind

theorem nonneg_of {c d : Rat} (hc : 0 < c) (h : 0 ≤ c * d) : 0 ≤ d := by
  by_cases hd : 0 ≤ d
  · exact hd
  · have h1 : 0 < c * (-d) := Rat.mul_pos hc (by grind)
    grind
theorem within_mul {a b A B : Rat} (h1 : -A ≤ a) (h2 : a ≤ A) (h3 : -B ≤ b) (h4 : b ≤ B) : -(A * B) ≤ a * b ∧ a * b ≤ A * B := by
  have k1 := Rat.mul_nonneg (a := A - a) (b := B + b) (by grind) (by grind)
  have k2 := Rat.mul_nonneg (a := A + a) (b := B - b) (by grind) (by grind)
  have k3 := Rat.mul_nonneg (a := A - a) (b := B - b) (by grind) (by grind)
  have k4 := Rat.mul_nonneg (a := A + a) (b := B + b) (by grind) (by grind)
  constructor <;> grind
theorem tR_within {x X : Rat} (h1 : -X ≤ x) (h2 : x ≤ X) : ∀ k, -tR X k ≤ tR x k ∧ tR x k ≤ tR X k
  | 0 => by simp only [tR]; constructor <;> grind
  | k + 1 => by
    obtain ⟨i1, i2⟩ := tR_within h1 h2 k
    have hc : (0 : Rat) < (k : Rat) + 1 := by have := natR k; grind
    have e1 := tR_succ x k
    have e2 := tR_succ X k
    obtain ⟨m1, m2⟩ := within_mul i1 i2 h1 h2
    have a := nonneg_of hc (d := tR X (k + 1) - tR x (k + 1)) (by grind)
    have b := nonneg_of hc (d := tR X (k + 1) + tR x (k + 1)) (by grind)
    constructor <;> grind
theorem eR_one : ∀ (b : Bool) k, -1 ≤ eR b k ∧ eR b k ≤ 1
  | false, 0 => by simp only [eR]; constructor <;> grind
  | true, 0 => by simp only [eR]; constructor <;> grind
  | false, k + 1 => by have := eR_one true k; simp only [eR]; constructor <;> grind
  | true, k + 1 => by have := eR_one false k; simp only [eR]; exact this
theorem tail_row {f g : Nat → Rat} (h : ∀ i, -g i ≤ f i ∧ f i ≤ g i) (n : Nat) : ∀ d, -(sumR g (n + d) - sumR g n) ≤ sumR f (n + d) - sumR f n ∧ sumR f (n + d) - sumR f n ≤ sumR g (n + d) - sumR g n
  | 0 => by rw [Nat.add_zero]; constructor <;> grind
  | d + 1 => by
    obtain ⟨a, b⟩ := tail_row h n d
    obtain ⟨c, e⟩ := h (n + d)
    have ef : sumR f (n + (d + 1)) = sumR f (n + d) + f (n + d) := rfl
    have eg : sumR g (n + (d + 1)) = sumR g (n + d) + g (n + d) := rfl
    rw [ef, eg]
    constructor <;> grind
theorem sumR_within {f g : Nat → Rat} : ∀ n, (∀ i, i < n → -g i ≤ f i ∧ f i ≤ g i) → -sumR g n ≤ sumR f n ∧ sumR f n ≤ sumR g n
  | 0, _ => by show -(0 : Rat) ≤ 0 ∧ (0 : Rat) ≤ 0; constructor <;> grind
  | n + 1, h => by
    obtain ⟨a, b⟩ := sumR_within n (fun i hi => h i (by omega))
    obtain ⟨c, e⟩ := h n (by omega)
    show -(sumR g n + g n) ≤ sumR f n + f n ∧ sumR f n + f n ≤ sumR g n + g n
    constructor <;> grind
theorem tail_box {F G : Nat → Nat → Rat} (h : ∀ j k, -G j k ≤ F j k ∧ F j k ≤ G j k) (N : Nat) :
    -(sumR (fun j => sumR (G j) N) N - sumR (fun j => sumR (G j) (N - j)) N) ≤ sumR (fun j => sumR (F j) N) N - sumR (fun j => sumR (F j) (N - j)) N ∧
    sumR (fun j => sumR (F j) N) N - sumR (fun j => sumR (F j) (N - j)) N ≤ sumR (fun j => sumR (G j) N) N - sumR (fun j => sumR (G j) (N - j)) N := by
  rw [← sumR_sub, ← sumR_sub]
  refine sumR_within N fun j hj => ?_
  have := tail_row (h j) (N - j) j
  rwa [show N - j + j = N from by omega] at this
/-- what the products of N terms have over the sum's N terms -/
def restR (N : Nat) (X : Rat) : Rat := sumR (tR X) N * sumR (tR X) N - sumR (tR (X + X)) N
theorem restR_eq (N : Nat) (X : Rat) : sumR (fun j => sumR (fun k => tR X j * tR X k) N) N - sumR (fun j => sumR (fun k => tR X j * tR X k) (N - j)) N = restR N X := by
  unfold restR
  rw [sumR_prod, ← sumR_tri]
  congr 1
  exact sumR_congr _ fun m _ => (tR_plus X X m).symm
theorem term_within {x y X : Rat} (h1 : -X ≤ x) (h2 : x ≤ X) (h3 : -X ≤ y) (h4 : y ≤ X) (b : Bool) (j k : Nat) : -(tR X j * tR X k) ≤ eR b (j + k) * (tR x j * tR y k) ∧ eR b (j + k) * (tR x j * tR y k) ≤ tR X j * tR X k := by
  obtain ⟨a1, a2⟩ := tR_within h1 h2 j
  obtain ⟨b1, b2⟩ := tR_within h3 h4 k
  obtain ⟨c1, c2⟩ := within_mul a1 a2 b1 b2
  obtain ⟨d1, d2⟩ := eR_one b (j + k)
  have := within_mul d1 d2 c1 c2
  grind
theorem cR_add {x y X : Rat} (N : Nat) (h1 : -X ≤ x) (h2 : x ≤ X) (h3 : -X ≤ y) (h4 : y ≤ X) :
    -restR N X ≤ cR N x * cR N y - sR N x * sR N y - cR N (x + y) ∧ cR N x * cR N y - sR N x * sR N y - cR N (x + y) ≤ restR N X := by
  rw [cR_box, cR_tri, ← restR_eq]
  exact tail_box (fun j k => term_within h1 h2 h3 h4 false j k) N
theorem sR_add {x y X : Rat} (N : Nat) (h1 : -X ≤ x) (h2 : x ≤ X) (h3 : -X ≤ y) (h4 : y ≤ X) :
    -restR N X ≤ sR N x * cR N y + cR N x * sR N y - sR N (x + y) ∧ sR N x * cR N y + cR N x * sR N y - sR N (x + y) ≤ restR N X := by
  rw [sR_box, sR_tri, ← restR_eq]
  exact tail_box (fun j k => term_within h1 h2 h3 h4 true j k) N
/-- the series of the exponential, times n! -/
def hN (x : Nat) : Nat → Nat
  | 0 => 1
  | n + 1 => hN x n * (n + 1) + x ^ (n + 1)
def facN : Nat → Nat
  | 0 => 1
  | n + 1 => facN n * (n + 1)
theorem facN_pos : ∀ n, 0 < facN n
  | 0 => Nat.one_pos
  | n + 1 => Nat.mul_pos (facN_pos n) (Nat.succ_pos n)
theorem tR_fac (x : Nat) : ∀ n, tR (x : Rat) n * (facN n : Rat) = ((x ^ n : Nat) : Rat)
  | 0 => by show (1 : Rat) * ((1 : Nat) : Rat) = ((1 : Nat) : Rat); grind
  | n + 1 => by
    have ih := tR_fac x n
    have h := tR_succ (x : Rat) n
    have e1 : ((facN (n + 1) : Nat) : Rat) = (facN n : Rat) * ((n : Rat) + 1) := by
      show ((facN n * (n + 1) : Nat) : Rat) = _
      exact_mod_cast rfl
    have e2 : ((x ^ (n + 1) : Nat) : Rat) = ((x ^ n : Nat) : Rat) * (x : Rat) := by
      rw [Nat.pow_succ]; exact_mod_cast rfl
    rw [e1, e2, ← ih]
    grind
theorem hN_eq (x : Nat) : ∀ n, sumR (tR (x : Rat)) (n + 1) * (facN n : Rat) = (hN x n : Rat)
  | 0 => by show ((0 : Rat) + 1) * ((1 : Nat) : Rat) = ((1 : Nat) : Rat); grind
  | n + 1 => by
    have ih := hN_eq x n
    have h := tR_fac x (n + 1)
    have e1 : ((facN (n + 1) : Nat) : Rat) = (facN n : Rat) * ((n : Rat) + 1) := by
      show ((facN n * (n + 1) : Nat) : Rat) = _
      exact_mod_cast rfl
    have e2 : ((hN x (n + 1) : Nat) : Rat) = (hN x n : Rat) * ((n : Rat) + 1) + ((x ^ (n + 1) : Nat) : Rat) := by
      show ((hN x n * (n + 1) + x ^ (n + 1) : Nat) : Rat) = _
      exact_mod_cast rfl
    show (sumR (tR (x : Rat)) (n + 1) + tR (x : Rat) (n + 1)) * _ = _
    rw [e2, ← ih, ← h, e1]
    grind

theorem rest_le {x n K : Nat} (h : (K * (hN x n * hN x n)).ble (facN n * facN n + K * (hN (x + x) n * facN n)) = true) : (K : Rat) * restR (n + 1) (x : Rat) ≤ 1 := by
  have h := Nat.le_of_ble_eq_true h
  have hq : (K : Rat) * ((hN x n : Rat) * (hN x n : Rat)) ≤ (facN n : Rat) * (facN n : Rat) + (K : Rat) * ((hN (x + x) n : Rat) * (facN n : Rat)) := by exact_mod_cast h
  have e1 := hN_eq x n
  have e2 := hN_eq (x + x) n
  have e3 : ((x + x : Nat) : Rat) = (x : Rat) + (x : Rat) := by exact_mod_cast rfl
  rw [e3] at e2
  have hf : (0 : Rat) < (facN n : Rat) := by exact_mod_cast facN_pos n
  have hff := Rat.mul_pos hf hf
  unfold restR
  generalize sumR (tR (x : Rat)) (n + 1) = A at *
  generalize sumR (tR ((x : Rat) + (x : Rat))) (n + 1) = B at *
  rw [← e1, ← e2] at hq
  have := nonneg_of hff (d := 1 - (K : Rat) * (A * A - B)) (by grind)
  grind
theorem rest100 : ((2 ^ 130 : Nat) : Rat) * restR 100 ((7 : Nat) : Rat) ≤ 1 := rest_le (x := 7) (n := 99) (by decide +kernel)
end Go.Proofs.Ytpifkjmdcbieoaa

/- What a call may do to the world, and a row's end; equal results. No program is named here. -/
namespace Go.Proofs.Ytpifkjmdcbieoaa
open Go.RowKit

theorem ret_i64 {a b : Int} (h : a = b) : Ending.returned (.int .i64 a) = .returned (.int .i64 b) := by rw [h]
theorem ret_u64 {a b : Int} (h : a = b) : Ending.returned (.int .u64 a) = .returned (.int .u64 b) := by rw [h]
theorem ret_bool {a b : Bool} (h : a = b) : Ending.returned (.bool a) = .returned (.bool b) := by rw [h]

theorem ret_u64u64 {a b c d : Int} (h : a = b) (k : c = d) : Ending.returned (.tuple #[.int .u64 a, .int .u64 c]) = .returned (.tuple #[.int .u64 b, .int .u64 d]) := by rw [h, k]
theorem ret_i64i64 {a b c d : Int} (h : a = b) (k : c = d) : Ending.returned (.tuple #[.int .i64 a, .int .i64 c]) = .returned (.tuple #[.int .i64 b, .int .i64 d]) := by rw [h, k]
theorem ret_i64b {a b : Int} {c d : Bool} (h : a = b) (k : c = d) : Ending.returned (.tuple #[.int .i64 a, .bool c]) = .returned (.tuple #[.int .i64 b, .bool d]) := by rw [h, k]

/-! what a call may do to the world: of what was there nothing turns -/
def Bel (w w' : World) : Prop := Below w.heap.size w w'
theorem Bel.refl (w : World) : Bel w w := Below.refl _ _
theorem Bel.trans {a b c : World} (h : Bel a b) (k : Bel b c) : Bel a c := Below.trans h (Below.mono k h.size)
theorem Bel.alloc {a w : World} (h : Bel a w) (o : Obj) : Bel a (w.alloc o) := Below.alloc h h.size o
theorem Bel.drew {a w : World} (h : Bel a w) : Bel a w.drew := Below.drew h
theorem Bel.drewN {a w : World} (h : Bel a w) (n : Nat) : Bel a (w.drewN n) := below_drewN h n
theorem Bel.setCell {a w : World} (h : Bel a w) {p : Addr} (hp : a.heap.size ≤ p.block) (u : Value) : Bel a (w.setCell p u) := Below.setCell h hp u
theorem Bel.grown {a w w' : World} {row : Option Nat} (h : Bel a w) (hg : w.grownBy w' row) (hr : ∀ k, row = some k → a.heap.size ≤ k) : Bel a w' := Below.grown h hg h.size hr
theorem Bel.cell {w w' : World} (h : Bel w w') {p : Addr} (hp : p.block < w.heap.size) : w'.cell? p = w.cell? p := Below.cell h hp
theorem Bel.frozen {w w' : World} (h : Bel w w') {p : Addr} (hp : p.block < w.heap.size) : w'.frozen? p = w.frozen? p := Below.frozen h hp

/-- nothing turns but the draws -/
def Dr (w w' : World) : Prop := ∃ m, w' = w.drewN m
theorem Dr.refl (w : World) : Dr w w := ⟨0, rfl⟩
theorem Dr.trans {a b c : World} (h : Dr a b) (k : Dr b c) : Dr a c := by
  obtain ⟨m, rfl⟩ := h
  obtain ⟨n, rfl⟩ := k
  exact ⟨m + n, by simp⟩
theorem Dr.drewN {a w : World} (h : Dr a w) (n : Nat) : Dr a (w.drewN n) := h.trans ⟨n, rfl⟩
theorem Dr.drew {a w : World} (h : Dr a w) : Dr a w.drew := h.trans ⟨1, rfl⟩
theorem Dr.bel {w w' : World} (h : Dr w w') : Bel w w' := by
  obtain ⟨m, rfl⟩ := h
  exact (Bel.refl _).drewN m

/-- an owned slice lies in a block of the call's own -/
theorem ownsRow_block {w : World} {base : Nat} {e : TypeId} {size : Nat} {v : Value} {n : Nat} {xs : List Value} (h : w.ownsRow base e size v n xs) : ∀ k, v.ownBlock = some k → base ≤ k := by
  intro k hk
  rcases h.2 with ⟨rfl, _⟩ | ⟨g, cap, cur, rfl, hg, _⟩
  · simp [Value.ownBlock] at hk
  · simp [Value.ownBlock] at hk; omega

section
open Go.ChangeShapes Go.WideShapes
variable {H : Type} {enc : TypeId × Value → H} {P : Program}
/-- the row's end, where of what was there nothing has turned -/
theorem post_of_bel {f : Func} {s : ChangeSpec} {apart fresh handsOn again : Bool} {W W' : World} {args : Array Value} {v : Value} {ds gs : List (DataW H)} {before pa pv : List MemPlace}
    (hW : DataW.Whole enc P f.params.toList s.vars apart W args.toList ds gs before)
    (hres : ∀ (b : Nat) (sp : Nat → Bool) (hd : Bool), DataW.TrodAll enc P W' b sp hd f.resultTypes.toList (v.resultList f.resultTypes.size) (s.fn H (ds ++ gs)).results [])
    (hargs : ∀ sp : Nat → Bool, (∀ p ∈ before, sp p.block = true) → DataW.TrodAll enc P W' 0 sp true f.params.toList args.toList (s.fn H (ds ++ gs)).args pa)
    (hvars : ∀ sp : Nat → Bool, (∀ p ∈ before, sp p.block = true) → DataW.TrodVars enc P W' sp s.vars (s.fn H (ds ++ gs)).vars pv)
    (hps : before = pa ++ pv) (hb : Bel W W')
    (hok : ∀ (j : Nat) (t : TypeId) (r : Value), f.resultTypes[j]? = some t → (v.resultList f.resultTypes.size)[j]? = some r → Value.okWide P W' .any 0 t r) :
    s.post enc P f apart fresh handsOn again W args v W' := by
  have hlt : ∀ p ∈ before, p.block < W.heap.size := fun p hp => hW.lt p hp
  have hold : ∀ p ∈ before, (fun b => decide (b < W.heap.size)) p.block = true := fun p hp => by simpa using hlt p hp
  refine ⟨ds, gs, before, [], pa, pv, hW, hres _ _ _, hargs _ hold, hvars _ hold, World.keptBut_mono (fun p hp => ⟨hp, ?_⟩) (Below.frame hb (· ∈ before)), fun _ => ?_⟩
  · rw [hps, List.mem_append] at hp
    exact Or.inr hp
  · obtain ⟨_, _, _, _, _, hz, hn⟩ := hW
    refine ⟨hok, _, _, ([] ++ pa) ++ pv, ⟨[] ++ pa, pv, trodAll_append (hargs _ (fun _ _ => rfl)) (hres _ _ _), hvars _ (fun _ _ => rfl), rfl, ?_, ?_⟩, ?_⟩
    · intro b off hp
      have hin : MemPlace.cell b off ∈ before := by rw [hps]; simpa using hp
      rw [Below.frozen hb (hlt _ hin)]
      exact hz b off hin
    · intro ha
      have := hn ha
      rw [hps] at this
      simpa using this
    · intro p hp _
      rw [hps]
      simpa using hp
end

end Go.Proofs.Ytpifkjmdcbieoaa

/- Floats of 53 bits as whole numbers (of the least unit): rounding to nearest, sums and what they lack. No program is named here. -/
namespace Flt

/-- a float: fewer than 54 bits, times a power of two -/
def FL (n : Int) : Prop := ∃ (m : Int) (e : Nat), n = m * 2 ^ e ∧ m.natAbs < 2 ^ 53
/-- z is a nearest float to n -/
structure Near (n z : Int) : Prop where
  fl : FL z
  le : ∀ y, FL y → (z - n).natAbs ≤ (y - n).natAbs

theorem two_pos (e : Nat) : (0 : Int) < 2 ^ e := Int.pow_pos (by decide)
theorem natAbs_two (e : Nat) : ((2 : Int) ^ e).natAbs = 2 ^ e := by rw [Int.natAbs_pow]; rfl
theorem two_lt {a b : Nat} (h : 2 ^ a < 2 ^ b) : a < b := (Nat.pow_lt_pow_iff_right (by decide)).1 h
theorem two_le {a b : Nat} (h : a ≤ b) : 2 ^ a ≤ 2 ^ b := Nat.pow_le_pow_right (by decide) h
theorem two_lt' {a b : Nat} (h : a < b) : 2 ^ a < 2 ^ b := Nat.pow_lt_pow_right (by decide) h

theorem fl_zero : FL 0 := ⟨0, 0, by simp, by decide⟩
theorem fl_neg {n : Int} (h : FL n) : FL (-n) := by
  obtain ⟨m, e, rfl, hm⟩ := h
  exact ⟨-m, e, by rw [Int.neg_mul], by rwa [Int.natAbs_neg]⟩
theorem Near.neg {n z : Int} (h : Near n z) : Near (-n) (-z) := by
  refine ⟨fl_neg h.fl, fun y hy => ?_⟩
  have h1 := h.le (-y) (fl_neg hy)
  omega
theorem fl_of {n : Int} {e : Nat} (hd : (2 : Int) ^ e ∣ n) (h : n.natAbs ≤ 2 ^ (53 + e)) : FL n := by
  obtain ⟨m, rfl⟩ := hd
  rw [Int.natAbs_mul, natAbs_two, Nat.pow_add, Nat.mul_comm] at h
  have hm : m.natAbs ≤ 2 ^ 53 := Nat.le_of_mul_le_mul_right h (Nat.pow_pos (by decide))
  by_cases hlt : m.natAbs < 2 ^ 53
  · exact ⟨m, e, by rw [Int.mul_comm], hlt⟩
  · have hm2 : m.natAbs = 2 ^ 53 := by omega
    rcases Int.natAbs_eq m with h1 | h1
    · refine ⟨1, e + 53, ?_, by decide⟩
      rw [h1, hm2, Int.pow_add, Int.one_mul]; rfl
    · refine ⟨-1, e + 53, ?_, by decide⟩
      rw [h1, hm2, Int.pow_add, Int.neg_mul, Int.one_mul, Int.mul_neg]; rfl
theorem dvd_of_ge {n : Int} {e : Nat} (h : FL n) (hge : 2 ^ (52 + e) ≤ n.natAbs) : (2 : Int) ^ e ∣ n := by
  obtain ⟨m, f, rfl, hm⟩ := h
  have hef : e ≤ f := by
    rw [Int.natAbs_mul, natAbs_two] at hge
    have h1 : m.natAbs * 2 ^ f < 2 ^ 53 * 2 ^ f := Nat.mul_lt_mul_of_pos_right hm (Nat.pow_pos (by decide))
    rw [← Nat.pow_add] at h1
    have := two_lt (Nat.lt_of_le_of_lt hge h1)
    omega
  obtain ⟨k, rfl⟩ : ∃ k, f = e + k := ⟨f - e, by omega⟩
  exact ⟨m * 2 ^ k, by rw [Int.pow_add]; ac_rfl⟩
/-- the exponent of the last bit -/
theorem canon {n : Int} (h : FL n) : ∃ e : Nat, (2 : Int) ^ e ∣ n ∧ n.natAbs < 2 ^ (53 + e) ∧ (e = 0 ∨ 2 ^ (52 + e) ≤ n.natAbs) := by
  by_cases hs : n.natAbs < 2 ^ 53
  · exact ⟨0, by simp, by simpa using hs, Or.inl rfl⟩
  · have hn0 : n.natAbs ≠ 0 := by
      intro hc; rw [hc] at hs; exact hs (by decide)
    have h1 := Nat.log2_self_le hn0
    have h2 := @Nat.lt_log2_self n.natAbs
    have h52 : 53 ≤ n.natAbs.log2 := (Nat.le_log2 hn0).2 (by omega)
    have e1 : 52 + (n.natAbs.log2 - 52) = n.natAbs.log2 := by omega
    have e2 : 53 + (n.natAbs.log2 - 52) = n.natAbs.log2 + 1 := by omega
    refine ⟨n.natAbs.log2 - 52, dvd_of_ge h (by rw [e1]; exact h1), by rw [e2]; exact h2, Or.inr (by rw [e1]; exact h1)⟩
theorem fl_small {n : Int} (h : n.natAbs ≤ 2 ^ 53) : FL n := fl_of (e := 0) (by simp) (by simpa using h)

theorem Near.self {n z : Int} (h : Near n z) (hf : FL n) : z = n := by
  have := h.le n hf
  omega
theorem Near.ge {n z y : Int} (h : Near n z) (hy : FL y) (hle : y ≤ n) : y ≤ z := by
  have := h.le y hy
  omega
theorem Near.le' {n z y : Int} (h : Near n z) (hy : FL y) (hle : n ≤ y) : z ≤ y := by
  have := h.le y hy
  omega
/-- the error: at most half the last place -/
theorem Near.err {n z : Int} {e : Nat} (h : Near n z) (hn : n.natAbs ≤ 2 ^ (54 + e)) : (z - n).natAbs ≤ 2 ^ e := by
  -- the multiple of 2^(e+1) that is nearest
  have hp := two_pos e
  have hpn : ((2 : Int) ^ e).natAbs = 2 ^ e := natAbs_two e
  have key : ∃ y : Int, (2 : Int) ^ (e + 1) ∣ y ∧ (y - n).natAbs ≤ 2 ^ e ∧ y.natAbs ≤ 2 ^ (54 + e) := by
    have hm := Int.mul_ediv_add_emod n (2 ^ (e + 1))
    have h0 := Int.emod_nonneg n (Int.ne_of_gt (two_pos (e + 1)))
    have h1 := Int.emod_lt_of_pos n (two_pos (e + 1))
    have ee : (2 : Int) ^ (e + 1) = 2 * 2 ^ e := by rw [Int.pow_succ, Int.mul_comm]
    have bnd : ∀ y : Int, (2 : Int) ^ (e + 1) ∣ y → (y - n).natAbs ≤ 2 ^ e → y.natAbs ≤ 2 ^ (54 + e) := by
      intro y ⟨k, hk⟩ hy
      refine Classical.byContradiction fun hc => ?_
      have e54 : (2 : Nat) ^ (54 + e) = 2 ^ 53 * 2 ^ (e + 1) := by rw [← Nat.pow_add]; congr 1; omega
      have hka : y.natAbs = k.natAbs * 2 ^ (e + 1) := by rw [hk, Int.natAbs_mul, natAbs_two, Nat.mul_comm]
      have hk53 : 2 ^ 53 < k.natAbs := by
        refine Classical.byContradiction fun hx => hc ?_
        rw [hka, e54]; exact Nat.mul_le_mul_right _ (by omega)
      have h5 : (2 ^ 53 + 1) * 2 ^ (e + 1) ≤ k.natAbs * 2 ^ (e + 1) := Nat.mul_le_mul_right _ (by omega)
      rw [Nat.add_mul, ← e54, Nat.one_mul, ← hka, Nat.pow_succ] at h5
      have hpp : 0 < 2 ^ e := Nat.pow_pos (by decide)
      omega
    by_cases hr : n % 2 ^ (e + 1) ≤ 2 ^ e
    · refine ⟨2 ^ (e + 1) * (n / 2 ^ (e + 1)), Int.dvd_mul_right _ _, by omega, bnd _ (Int.dvd_mul_right _ _) (by omega)⟩
    · refine ⟨2 ^ (e + 1) * (n / 2 ^ (e + 1) + 1), Int.dvd_mul_right _ _, ?_, bnd _ (Int.dvd_mul_right _ _) ?_⟩
      · rw [Int.mul_add, Int.mul_one]; omega
      · rw [Int.mul_add, Int.mul_one]; omega
  obtain ⟨y, hy1, hy2, hy3⟩ := key
  exact Nat.le_trans (h.le y (fl_of hy1 (by rw [show 53 + (e + 1) = 54 + e from by omega]; exact hy3))) hy2

/-- a number of last place e whose nearest float is not itself is great, and so is that float -/
theorem Near.great {n z : Int} {e : Nat} (h : Near n z) (hd : (2 : Int) ^ e ∣ n) (hne : z ≠ n) : 2 ^ (53 + e) ≤ n.natAbs ∧ 2 ^ (53 + e) ≤ z.natAbs := by
  have h1 : ¬ n.natAbs ≤ 2 ^ (53 + e) := fun hc => hne (h.self (fl_of hd hc))
  have hf : FL ((2 : Int) ^ (53 + e)) := fl_of (e := e) ⟨2 ^ 53, by rw [Int.pow_add, Int.mul_comm]⟩ (by rw [natAbs_two]; omega)
  have h2 := natAbs_two (53 + e)
  have hp := two_pos (53 + e)
  refine ⟨by omega, ?_⟩
  rcases Int.lt_or_le n 0 with hn | hn
  · have := h.neg.ge hf (by omega)
    omega
  · have := h.ge hf (by omega)
    omega
/-- the nearest float is a multiple, too -/
theorem Near.dvd {n z : Int} {e : Nat} (h : Near n z) (hd : (2 : Int) ^ e ∣ n) : (2 : Int) ^ e ∣ z := by
  by_cases hne : z = n
  · rw [hne]; exact hd
  · have := (h.great hd hne).2
    exact dvd_of_ge h.fl (Nat.le_trans (two_le (by omega)) this)

theorem two_dvd_of_le {e f : Nat} (h : e ≤ f) {n : Int} (hd : (2 : Int) ^ f ∣ n) : (2 : Int) ^ e ∣ n := by
  obtain ⟨k, rfl⟩ : ∃ k, f = e + k := ⟨f - e, by omega⟩
  exact Int.dvd_trans ⟨2 ^ k, by rw [Int.pow_add]⟩ hd

/-- what a sum lacks is a float -/
theorem err_fl {a b s : Int} (ha : FL a) (hb : FL b) (h : Near (a + b) s) : FL (a + b - s) := by
  have key : ∀ a b s : Int, FL a → FL b → b.natAbs ≤ a.natAbs → Near (a + b) s → FL (a + b - s) := by
    intro a b s ha hb hab h
    obtain ⟨e, hd, hlt, hc⟩ := canon hb
    have hda : (2 : Int) ^ e ∣ a := by
      rcases hc with rfl | hc
      · simp
      · exact dvd_of_ge ha (by omega)
    have hds := h.dvd (Int.dvd_add hda hd)
    have hle := h.le a ha
    exact fl_of (Int.dvd_sub (Int.dvd_add hda hd) hds) (by omega)
  rcases Nat.le_total b.natAbs a.natAbs with hab | hab
  · exact key a b s ha hb hab h
  · have := key b a s hb ha hab (by rwa [Int.add_comm])
    rwa [Int.add_comm b a] at this

/-- the greater part taken from a sum leaves a float -/
theorem fast_fl {x y z : Int} (hx : FL x) (hy : FL y) (hle : y.natAbs ≤ x.natAbs) (h : Near (x + y) z) : FL (z - x) := by
  have key : ∀ x y z : Int, 0 ≤ x → FL x → FL y → y.natAbs ≤ x.natAbs → Near (x + y) z → FL (z - x) := by
    intro x y z x0 hx hy hle h
    by_cases hez : z = x + y
    · have : z - x = y := by omega
      rw [this]; exact hy
    obtain ⟨f, hdf, hf, hcf⟩ := canon hy
    obtain ⟨e, hde, he, hce⟩ := canon hx
    by_cases e0 : e = 0
    · subst e0
      have h2 : 2 ^ (53 + 0) = 9007199254740992 := rfl
      have h4 := h.err (e := 0) (by have : 2 ^ (54 + 0) = 18014398509481984 := rfl
                                    omega)
      refine fl_small ?_
      have h5 : (2 : Nat) ^ 53 = 9007199254740992 := rfl
      have h6 : (2 : Nat) ^ 0 = 1 := rfl
      omega
    obtain ⟨g, rfl⟩ : ∃ g, e = g + 1 := ⟨e - 1, by omega⟩
    clear e0
    have hce : 2 ^ (52 + (g + 1)) ≤ x.natAbs := by
      rcases hce with h1 | h1
      · omega
      · exact h1
    have p1 : (2 : Nat) ^ (g + 1) = 2 * 2 ^ g := by rw [Nat.pow_succ, Nat.mul_comm]
    have p52 : (2 : Nat) ^ (52 + (g + 1)) = 9007199254740992 * 2 ^ g := by rw [show 52 + (g + 1) = 53 + g from by omega, Nat.pow_add]
    have p53 : (2 : Nat) ^ (53 + (g + 1)) = 18014398509481984 * 2 ^ g := by rw [show 53 + (g + 1) = 54 + g from by omega, Nat.pow_add]
    have hpos : 0 < 2 ^ g := Nat.pow_pos (by decide)
    -- x is at most (2^53 - 1) * 2^(g+1)
    have hx1 : x.natAbs + 2 * 2 ^ g ≤ 18014398509481984 * 2 ^ g := by
      obtain ⟨k, hk⟩ := hde
      have hka : x.natAbs = k.natAbs * (2 * 2 ^ g) := by rw [hk, Int.natAbs_mul, natAbs_two, p1, Nat.mul_comm]
      have hk53 : k.natAbs < 9007199254740992 := by
        refine Classical.byContradiction fun hc => ?_
        have : 9007199254740992 * (2 * 2 ^ g) ≤ k.natAbs * (2 * 2 ^ g) := Nat.mul_le_mul_right _ (by omega)
        omega
      have : (k.natAbs + 1) * (2 * 2 ^ g) ≤ 9007199254740992 * (2 * 2 ^ g) := Nat.mul_le_mul_right _ hk53
      rw [Nat.add_mul, Nat.one_mul, ← hka] at this
      omega
    by_cases hy0 : 0 ≤ y
    · -- the sum is no less than x
      have hzx := h.ge hx (by omega)
      have hdz : (2 : Int) ^ (g + 1) ∣ z := dvd_of_ge h.fl (by omega)
      have herr := h.err (e := g + 1) (by
        rw [show 54 + (g + 1) = 55 + g from by omega, Nat.pow_add]
        have : (2 : Nat) ^ 55 = 36028797018963968 := rfl
        rw [this]; omega)
      refine fl_of (Int.dvd_sub hdz hde) ?_
      omega
    · by_cases hhalf : 2 * y.natAbs ≤ x.natAbs
      · -- the sum is no less than half of x
        have hhx : FL ((2 : Int) ^ (52 + g)) := fl_of (e := g) ⟨2 ^ 52, by rw [Int.pow_add, Int.mul_comm]⟩ (by rw [natAbs_two]; exact two_le (by omega))
        have q52 : (2 : Int) ^ (52 + g) = 4503599627370496 * 2 ^ g := by rw [Int.pow_add]; rfl
        have pc : ((2 ^ g : Nat) : Int) = (2 : Int) ^ g := by rw [Int.natCast_pow]; rfl
        have hz1 := h.ge hhx (by omega)
        have hzx := h.le' hx (by omega)
        have hdz : (2 : Int) ^ g ∣ z := dvd_of_ge h.fl (by
          have : (2 : Nat) ^ (52 + g) = 4503599627370496 * 2 ^ g := by rw [Nat.pow_add]
          omega)
        have herr := h.err (e := g) (by rw [Nat.pow_add]; have : (2 : Nat) ^ 54 = 18014398509481984 := rfl
                                        rw [this]; omega)
        refine fl_of (Int.dvd_sub hdz (two_dvd_of_le (by omega) hde)) ?_
        have : (2 : Nat) ^ (53 + g) = 9007199254740992 * 2 ^ g := by rw [Nat.pow_add]
        omega
      · -- the sum is exact
        exfalso
        refine hez (h.self ?_)
        have hdx : (2 : Int) ^ f ∣ x := by
          rcases hcf with h1 | h1
          · rw [h1]; simp
          · exact dvd_of_ge hx (by omega)
        exact fl_of (Int.dvd_add hdx hdf) (by omega)
  rcases Int.lt_or_le x 0 with hx0 | hx0
  · have := key (-x) (-y) (-z) (by omega) (fl_neg hx) (fl_neg hy) (by omega) (by have := h.neg
                                                                                 rwa [Int.neg_add] at this)
    have e : -(-z - -x) = z - x := by omega
    rw [← e]; exact fl_neg this
  · exact key x y z hx0 hx hy hle h
end Flt

/- The float operations of the model, in whole numbers of the least unit: finite words, what they stand for, rounding, sums, products, order. No program is named here. -/
namespace Flt
open Ieee

/-- the number that stands there, in units of 2^-1074 -/
def sval (s : Bool) (m : Nat) (i : Int) : Int := signed s m (i + 1074).toNat
theorem signed_eq (s : Bool) (m u : Nat) : signed s m u = (if s then -((m : Int) * 2 ^ u) else (m : Int) * 2 ^ u) := by
  unfold signed
  rw [Nat.shiftLeft_eq, Int.natCast_mul, Int.natCast_pow]
  rfl
theorem signed_abs (s : Bool) (m u : Nat) : (signed s m u).natAbs = m * 2 ^ u := by
  rw [signed_eq]
  have h : ((m : Int) * 2 ^ u).natAbs = m * 2 ^ u := by rw [Int.natAbs_mul, natAbs_two]; rfl
  cases s
  · exact h
  · show (-((m : Int) * 2 ^ u)).natAbs = _
    rw [Int.natAbs_neg]; exact h

/-- x is the word of a finite float that is n units -/
structure Num (x : Nat) (n : Int) : Prop where
  lt : x < 2 ^ 64
  ex : ∃ s m i, double.read x = .number s m i ∧ -1074 ≤ i ∧ i ≤ 971 ∧ m < 2 ^ 53 ∧ n = sval s m i

theorem Num.fl {x : Nat} {n : Int} (h : Num x n) : FL n := by
  obtain ⟨s, m, i, _, h1, _, h3, rfl⟩ := h.ex
  unfold sval
  rw [signed_eq]
  cases s
  · exact ⟨m, (i + 1074).toNat, rfl, h3⟩
  · exact ⟨-m, (i + 1074).toNat, by rw [Int.neg_mul]; rfl, by rw [Int.natAbs_neg]; exact h3⟩

theorem least : double.leastPlace = -1074 := by decide
theorem binade_eq : double.binade = 4503599627370496 := by decide
theorem inf_eq : double.infRung = 9218868437227405312 := by decide
theorem weight_eq : double.signWeight = 9223372036854775808 := by decide
theorem fraction_eq : double.fractionBits = 52 := by decide

theorem read_small {x : Nat} (h : x % 9223372036854775808 < 4503599627370496) : double.read x = .number (x / 9223372036854775808 % 2 == 1) (x % 9223372036854775808) (-1074) := by
  unfold Format.read
  rw [weight_eq, binade_eq, least]
  simp only [h, if_true]
theorem read_mid {x : Nat} (h1 : ¬ x % 9223372036854775808 < 4503599627370496) (h : x % 9223372036854775808 < 9218868437227405312) :
    double.read x = .number (x / 9223372036854775808 % 2 == 1) (4503599627370496 + x % 9223372036854775808 % 4503599627370496) (-1074 + (x % 9223372036854775808 / 4503599627370496 - 1 : Nat)) := by
  unfold Format.read
  rw [weight_eq, binade_eq, inf_eq, least]
  simp only [h1, h, if_true, if_false]
/-- what a word stands for, in units; of what isn't finite 0 -/
def vI (x : Nat) : Int := match double.read x with
  | .number s m i => sval s m i
  | _ => 0
theorem Num.val {x : Nat} {n : Int} (h : Num x n) : vI x = n := by
  obtain ⟨s, m, i, hr, _, _, _, rfl⟩ := h.ex
  unfold vI
  rw [hr]
theorem Num.unique {x : Nat} {n k : Int} (h : Num x n) (h' : Num x k) : n = k := by rw [← h.val, ← h'.val]
/-- a finite word -/
theorem num_of {x : Nat} (h : x < 2 ^ 64) (hf : x % 9223372036854775808 < 9218868437227405312) : Num x (vI x) := by
  have key : ∃ n, Num x n := by
    by_cases h1 : x % 9223372036854775808 < 4503599627370496
    · exact ⟨_, h, _, _, _, read_small h1, by omega, by omega, by omega, rfl⟩
    · exact ⟨_, h, _, _, _, read_mid h1 hf, by omega, by omega, by omega, rfl⟩
  obtain ⟨n, hn⟩ := key
  rw [hn.val]; exact hn
theorem Num.fin {x : Nat} {n : Int} (h : Num x n) : x % 9223372036854775808 < 9218868437227405312 := by
  obtain ⟨s, m, i, hr, _⟩ := h.ex
  refine Classical.byContradiction fun hc => ?_
  unfold Format.read at hr
  rw [weight_eq, binade_eq, inf_eq] at hr
  have h1 : ¬ x % 9223372036854775808 < 4503599627370496 := by omega
  simp only [h1, hc, if_false] at hr
  split at hr <;> cases hr

theorem log2_shift {m : Nat} (hm : m ≠ 0) (d : Nat) : (m * 2 ^ d).log2 = m.log2 + d := by
  have h1 := Nat.log2_self_le hm
  have h2 := @Nat.lt_log2_self m
  have hpos : 0 < 2 ^ d := Nat.pow_pos (by decide)
  have hne : m * 2 ^ d ≠ 0 := Nat.mul_ne_zero hm (by omega)
  refine (Nat.log2_eq_iff hne).2 ⟨?_, ?_⟩
  · rw [Nat.pow_add]; exact Nat.mul_le_mul_right _ h1
  · rw [show m.log2 + d + 1 = m.log2 + 1 + d from by omega, Nat.pow_add]; exact Nat.mul_lt_mul_of_pos_right h2 hpos

theorem cut_zero (s : Bool) (n : Nat) : Toward.even.cut s n 0 = n := by
  unfold Toward.cut
  simp [Nat.mod_one]
theorem tie_bool (A R Q : Nat) : (decide (A < R) || (A == R && Q == 1)).toNat = if A < R ∨ (A = R ∧ Q = 1) then 1 else 0 := by
  by_cases h1 : A < R
  · simp [h1]
  · by_cases h2 : A = R
    · by_cases h3 : Q = 1
      · simp [h2, h3]
      · simp [h2, h3]
    · simp [h1, h2]
theorem cut_some (s : Bool) (n drop : Nat) (h : drop ≤ n.log2 + 2) : Toward.even.cut s n drop = n / 2 ^ drop + (if 2 ^ drop < 2 * (n % 2 ^ drop) ∨ (2 ^ drop = 2 * (n % 2 ^ drop) ∧ n / 2 ^ drop % 2 = 1) then 1 else 0) := by
  unfold Toward.cut
  rw [Nat.min_eq_left h, Nat.shiftLeft_eq, Nat.one_mul]
  exact congrArg (n / 2 ^ drop + ·) (tie_bool (2 ^ drop) (2 * (n % 2 ^ drop)) (n / 2 ^ drop % 2))

/-- a word read back -/
theorem read_word (s : Bool) (k kept : Nat) (hk : kept ≤ 2 ^ 53) (hlow : k = 0 ∨ 2 ^ 52 ≤ kept) (hk2 : k ≤ 2044) : Num (double.word s (k * 4503599627370496 + kept)) (if s then -((kept : Int) * 2 ^ k) else (kept : Int) * 2 ^ k) ∧ k * 4503599627370496 + kept < 9218868437227405312 := by
  have h53 : (2 : Nat) ^ 53 = 9007199254740992 := rfl
  have h52 : (2 : Nat) ^ 52 = 4503599627370496 := rfl
  have hr : k * 4503599627370496 + kept < 9218868437227405312 := by omega
  refine ⟨⟨?_, ?_⟩, hr⟩
  · unfold Format.word
    rw [weight_eq]
    have : (2 : Nat) ^ 64 = 18446744073709551616 := rfl
    split <;> omega
  · have hread : double.read (double.word s (k * 4503599627370496 + kept)) =
        (if k * 4503599627370496 + kept < 4503599627370496 then .number s (k * 4503599627370496 + kept) (-1074)
         else .number s (4503599627370496 + (k * 4503599627370496 + kept) % 4503599627370496) (-1074 + ((k * 4503599627370496 + kept) / 4503599627370496 - 1 : Nat))) := by
      unfold Format.read Format.word
      rw [weight_eq, binade_eq, inf_eq, least]
      have e1 : (if s = true then 9223372036854775808 + (k * 4503599627370496 + kept) else k * 4503599627370496 + kept) % 9223372036854775808 = k * 4503599627370496 + kept := by
        cases s
        · simp only [Bool.false_eq_true, if_false]; omega
        · simp only [if_true]; omega
      have e2 : ((if s = true then 9223372036854775808 + (k * 4503599627370496 + kept) else k * 4503599627370496 + kept) / 9223372036854775808 % 2 == 1) = s := by
        cases s
        · simp only [Bool.false_eq_true, if_false]
          have : (k * 4503599627370496 + kept) / 9223372036854775808 = 0 := by omega
          rw [this]; rfl
        · simp only [if_true]
          have : (9223372036854775808 + (k * 4503599627370496 + kept)) / 9223372036854775808 = 1 := by omega
          rw [this]; rfl
      simp only [e1, e2, hr, if_true]
    by_cases c1 : k * 4503599627370496 + kept < 4503599627370496
    · rw [if_pos c1] at hread
      have k0 : k = 0 := by omega
      subst k0
      refine ⟨_, _, _, hread, by omega, by omega, by omega, ?_⟩
      unfold sval
      rw [signed_eq]; simp
    · rw [if_neg c1] at hread
      by_cases c2 : kept = 9007199254740992
      · subst c2
        have e3 : (k * 4503599627370496 + 9007199254740992) / 4503599627370496 - 1 = k + 1 := by omega
        have e4 : (k * 4503599627370496 + 9007199254740992) % 4503599627370496 = 0 := by omega
        rw [e3, e4] at hread
        refine ⟨_, _, _, hread, by omega, by omega, by omega, ?_⟩
        unfold sval
        rw [signed_eq, show (-1074 + ((k + 1 : Nat) : Int) + 1074).toNat = k + 1 from by omega, Int.pow_succ]
        have e5 : ((4503599627370496 + 0 : Nat) : Int) * (2 ^ k * 2) = ((9007199254740992 : Nat) : Int) * 2 ^ k := by
          rw [Int.mul_comm (2 ^ k) 2, ← Int.mul_assoc]; rfl
        rw [e5]
      · have e3 : (k * 4503599627370496 + kept) / 4503599627370496 - 1 = k := by omega
        have e4 : 4503599627370496 + (k * 4503599627370496 + kept) % 4503599627370496 = kept := by omega
        rw [e3, e4] at hread
        refine ⟨_, _, _, hread, by omega, by omega, by omega, ?_⟩
        unfold sval
        rw [signed_eq, show (-1074 + ((k : Nat) : Int) + 1074).toNat = k from by omega]
end Flt

/- The float operations of the model, in whole numbers of the least unit: rounding, sums, products, order. No program is named here. -/
namespace Flt
open Ieee

/-- the cut is the nearest multiple -/
theorem nearest_mult (mag g c : Nat) (hg : 0 < g) (hc : c = mag / g + (if g < 2 * (mag % g) ∨ (g = 2 * (mag % g) ∧ mag / g % 2 = 1) then 1 else 0)) (j : Int) : ((c : Int) * g - mag).natAbs ≤ (j * g - mag).natAbs := by
  have hm : ((mag / g : Nat) : Int) * (g : Int) + ((mag % g : Nat) : Int) = (mag : Int) := by
    rw [← Int.natCast_mul, Nat.mul_comm]; exact_mod_cast Nat.div_add_mod mag g
  have hr := Nat.mod_lt mag hg
  obtain ⟨q, hq⟩ : ∃ q, q = mag / g := ⟨_, rfl⟩
  obtain ⟨r, hrr⟩ : ∃ r, r = mag % g := ⟨_, rfl⟩
  rw [← hq, ← hrr] at hc hm
  rw [← hrr] at hr
  have hj : (j * g : Int) ≤ (q : Int) * g ∨ ((q : Int) + 1) * g ≤ j * g := by
    rcases Int.lt_or_le j ((q : Int) + 1) with h | h
    · exact Or.inl (Int.mul_le_mul_of_nonneg_right (by omega) (by omega))
    · exact Or.inr (Int.mul_le_mul_of_nonneg_right h (by omega))
  rw [Int.add_mul, Int.one_mul] at hj
  by_cases hP : g < 2 * r ∨ (g = 2 * r ∧ q % 2 = 1)
  · rw [if_pos hP] at hc
    rw [hc, Int.natCast_add, Int.add_mul]
    generalize (q : Int) * (g : Int) = Q at *
    generalize j * (g : Int) = J at *
    have : ((1 : Nat) : Int) * (g : Int) = g := by simp
    rw [this]
    omega
  · rw [if_neg hP, Nat.add_zero] at hc
    rw [hc]
    generalize (q : Int) * (g : Int) = Q at *
    generalize j * (g : Int) = J at *
    omega
theorem near_cut (mag d drop c : Nat) (hq : 2 ^ 52 ≤ mag / 2 ^ drop) (hq2 : mag / 2 ^ drop < 2 ^ 53) (hc : c = mag / 2 ^ drop + (if 2 ^ drop < 2 * (mag % 2 ^ drop) ∨ (2 ^ drop = 2 * (mag % 2 ^ drop) ∧ mag / 2 ^ drop % 2 = 1) then 1 else 0)) :
    Near ((mag : Int) * 2 ^ d) ((c : Int) * 2 ^ (d + drop)) := by
  have hg : 0 < 2 ^ drop := Nat.pow_pos (by decide)
  have hmult := nearest_mult mag (2 ^ drop) c hg hc
  have cg : ((2 ^ drop : Nat) : Int) = (2 : Int) ^ drop := by rw [Int.natCast_pow]; rfl
  rw [cg] at hmult
  have hcle : c ≤ 2 ^ 53 := by split at hc <;> omega
  have ez : ∀ j : Int, j * 2 ^ (d + drop) - (mag : Int) * 2 ^ d = (j * 2 ^ drop - mag) * 2 ^ d := fun j => by
    rw [Int.sub_mul, show d + drop = drop + d from by omega, Int.pow_add, ← Int.mul_assoc]
  have ea : ∀ j : Int, (j * 2 ^ (d + drop) - (mag : Int) * 2 ^ d).natAbs = (j * 2 ^ drop - mag).natAbs * 2 ^ d := fun j => by
    rw [ez, Int.natAbs_mul, natAbs_two]
  refine ⟨fl_of (e := d + drop) (Int.dvd_mul_left _ _) ?_, fun y hy => ?_⟩
  · rw [Int.natAbs_mul, natAbs_two, Nat.pow_add 2 53]
    exact Nat.mul_le_mul_right _ hcle
  · rw [ea]
    by_cases hbig : 2 ^ (52 + (d + drop)) ≤ y.natAbs
    · obtain ⟨j, hj⟩ := dvd_of_ge hy hbig
      rw [hj, Int.mul_comm (2 ^ (d + drop)) j, ea]
      exact Nat.mul_le_mul_right _ (hmult j)
    · have h1 := hmult (2 ^ 52)
      have h2 : (((c : Int) * 2 ^ drop - mag).natAbs) * 2 ^ d ≤ (((2 : Int) ^ 52 * 2 ^ drop - mag).natAbs) * 2 ^ d := Nat.mul_le_mul_right _ h1
      refine Nat.le_trans h2 ?_
      rw [← ea]
      have h3 : (2 : Nat) ^ 52 * 2 ^ drop ≤ mag := by
        have := Nat.div_mul_le_self mag (2 ^ drop)
        exact Nat.le_trans (Nat.mul_le_mul_right _ hq) this
      have h4 : (2 : Nat) ^ (52 + (d + drop)) ≤ mag * 2 ^ d := by
        have := Nat.mul_le_mul_right (2 ^ d) h3
        rw [← Nat.pow_add, ← Nat.pow_add] at this
        rw [show 52 + (d + drop) = 52 + drop + d from by omega]; exact this
      have h5 : (2 : Int) ^ 52 * 2 ^ (d + drop) = (((2 : Nat) ^ (52 + (d + drop)) : Nat) : Int) := by
        rw [← Int.pow_add, Int.natCast_pow]; rfl
      have h6 : (mag : Int) * 2 ^ d = ((mag * 2 ^ d : Nat) : Int) := by rw [Int.natCast_mul, Int.natCast_pow]; rfl
      rw [h5, h6]
      omega

/-- far below the greatest float -/
def top : Nat := 2097
/-- to the nearest word -/
theorem nearest_num (s : Bool) (mag : Nat) (place : Int) (hp : mag = 0 ∨ -1074 ≤ place) (hb : mag * 2 ^ (place + 1074).toNat < 2 ^ top) :
    ∃ z, Num (double.nearest s mag place) z ∧ Near (sval s mag place) z := by
  by_cases h0 : mag = 0
  · subst h0
    have hr := (read_word s 0 0 (by decide) (Or.inl rfl) (by decide)).1
    have ez : (if s then -(((0 : Nat) : Int) * 2 ^ 0) else ((0 : Nat) : Int) * 2 ^ 0) = 0 := by cases s <;> rfl
    rw [ez] at hr
    refine ⟨0, ?_, ?_⟩
    · unfold Format.nearest
      rw [if_pos rfl]
      exact hr
    · have : sval s 0 place = 0 := by
        unfold sval
        rw [signed_eq]; cases s <;> simp
      rw [this]
      exact ⟨fl_zero, fun y _ => by omega⟩
  · have hp : -1074 ≤ place := by rcases hp with h | h
                                  · exact absurd h h0
                                  · exact h
    obtain ⟨d, hd⟩ : ∃ d : Nat, place = (d : Int) - 1074 := ⟨(place + 1074).toNat, by omega⟩
    subst hd
    rw [show ((d : Int) - 1074 + 1074).toNat = d from by omega] at hb
    have hsv : sval s mag ((d : Int) - 1074) = (if s then -((mag : Int) * 2 ^ d) else (mag : Int) * 2 ^ d) := by
      unfold sval
      rw [signed_eq, show ((d : Int) - 1074 + 1074).toNat = d from by omega]
    rw [hsv]
    have hlo := Nat.log2_self_le h0
    have hhi := @Nat.lt_log2_self mag
    -- the rung
    have key : ∃ k c : Nat, double.nearest s mag ((d : Int) - 1074) = double.word s (min (k * 4503599627370496 + c) 9218868437227405312) ∧ c ≤ 2 ^ 53 ∧ (k = 0 ∨ 2 ^ 52 ≤ c) ∧ k ≤ 2044 ∧ Near ((mag : Int) * 2 ^ d) ((c : Int) * 2 ^ k) := by
      have hkd : d + mag.log2 < 2097 := by
        have h1 : 2 ^ (mag.log2 + d) ≤ mag * 2 ^ d := by rw [Nat.pow_add]; exact Nat.mul_le_mul_right _ hlo
        have := two_lt (Nat.lt_of_le_of_lt h1 hb)
        have ht : top = 2097 := rfl
        omega
      unfold Format.nearest
      rw [if_neg h0, least, binade_eq, inf_eq, fraction_eq]
      by_cases c1 : d + mag.log2 ≤ 52
      · have e1 : max ((d : Int) - 1074 + (mag.log2 : Int) - ((52 : Nat) : Int)) (-1074) = -1074 := by omega
        refine ⟨0, mag * 2 ^ d, ?_, ?_, Or.inl rfl, by omega, ?_⟩
        · simp only [e1]
          rw [show (-1074 - ((d : Int) - 1074)).toNat = 0 from by omega, cut_zero, show ((d : Int) - 1074 - -1074).toNat = d from by omega, Nat.shiftLeft_eq]
          rfl
        · have h1 : mag * 2 ^ d < 2 ^ (mag.log2 + 1) * 2 ^ d := Nat.mul_lt_mul_of_pos_right hhi (Nat.pow_pos (by decide))
          rw [← Nat.pow_add] at h1
          exact Nat.le_of_lt (Nat.lt_of_lt_of_le h1 (two_le (by omega)))
        · have h1 : mag * 2 ^ d < 2 ^ (mag.log2 + 1) * 2 ^ d := Nat.mul_lt_mul_of_pos_right hhi (Nat.pow_pos (by decide))
          rw [← Nat.pow_add] at h1
          have e3 : ((mag * 2 ^ d : Nat) : Int) * 2 ^ 0 = (mag : Int) * 2 ^ d := by rw [Int.pow_zero, Int.mul_one, Int.natCast_mul, Int.natCast_pow]; rfl
          rw [e3]
          refine ⟨fl_small ?_, fun y _ => by omega⟩
          rw [Int.natAbs_mul, natAbs_two]
          exact Nat.le_of_lt (Nat.lt_of_lt_of_le h1 (two_le (by omega)))
      · have e1 : max ((d : Int) - 1074 + (mag.log2 : Int) - ((52 : Nat) : Int)) (-1074) = ((d + mag.log2 - 52 : Nat) : Int) - 1074 := by omega
        by_cases c2 : mag.log2 ≤ 52
        · refine ⟨d + mag.log2 - 52, mag * 2 ^ (52 - mag.log2), ?_, ?_, Or.inr ?_, by omega, ?_⟩
          · simp only [e1]
            rw [show (((d + mag.log2 - 52 : Nat) : Int) - 1074 - ((d : Int) - 1074)).toNat = 0 from by omega, cut_zero, show ((d : Int) - 1074 - (((d + mag.log2 - 52 : Nat) : Int) - 1074)).toNat = 52 - mag.log2 from by omega, Nat.shiftLeft_eq,
              show (((d + mag.log2 - 52 : Nat) : Int) - 1074 - -1074).toNat = d + mag.log2 - 52 from by omega]
          · have h1 : mag * 2 ^ (52 - mag.log2) < 2 ^ (mag.log2 + 1) * 2 ^ (52 - mag.log2) := Nat.mul_lt_mul_of_pos_right hhi (Nat.pow_pos (by decide))
            rw [← Nat.pow_add] at h1
            exact Nat.le_of_lt (Nat.lt_of_lt_of_le h1 (two_le (by omega)))
          · have h1 : 2 ^ mag.log2 * 2 ^ (52 - mag.log2) ≤ mag * 2 ^ (52 - mag.log2) := Nat.mul_le_mul_right _ hlo
            rw [← Nat.pow_add] at h1
            exact Nat.le_trans (two_le (by omega)) h1
          · have e3 : ((mag * 2 ^ (52 - mag.log2) : Nat) : Int) * 2 ^ (d + mag.log2 - 52) = (mag : Int) * 2 ^ d := by
              rw [Int.natCast_mul, Int.natCast_pow, Int.mul_assoc]
              have : (((2 : Nat) : Int) ^ (52 - mag.log2)) * 2 ^ (d + mag.log2 - 52) = (2 : Int) ^ d := by
                show (2 : Int) ^ (52 - mag.log2) * 2 ^ (d + mag.log2 - 52) = _
                rw [← Int.pow_add]; congr 1; omega
              rw [this]
            rw [e3]
            have h1 : mag < 2 ^ 53 := Nat.lt_of_lt_of_le hhi (two_le (by omega))
            refine ⟨⟨mag, d, rfl, h1⟩, fun y _ => by omega⟩
        · have hdrop : mag.log2 - 52 ≤ mag.log2 + 2 := by omega
          have q1 : 2 ^ 52 ≤ mag / 2 ^ (mag.log2 - 52) := by
            refine (Nat.le_div_iff_mul_le (Nat.pow_pos (by decide))).2 ?_
            rw [← Nat.pow_add, show 52 + (mag.log2 - 52) = mag.log2 from by omega]; exact hlo
          have q2 : mag / 2 ^ (mag.log2 - 52) < 2 ^ 53 := by
            refine (Nat.div_lt_iff_lt_mul (Nat.pow_pos (by decide))).2 ?_
            rw [← Nat.pow_add, show 53 + (mag.log2 - 52) = mag.log2 + 1 from by omega]; exact hhi
          have hN := near_cut mag d (mag.log2 - 52) _ q1 q2 rfl
          refine ⟨d + (mag.log2 - 52), _, ?_, ?_, Or.inr ?_, by omega, hN⟩
          · simp only [e1]
            rw [show (((d + mag.log2 - 52 : Nat) : Int) - 1074 - ((d : Int) - 1074)).toNat = mag.log2 - 52 from by omega, show ((d : Int) - 1074 - (((d + mag.log2 - 52 : Nat) : Int) - 1074)).toNat = 0 from by omega, Nat.shiftLeft_zero, cut_some s mag _ hdrop,
              show (((d + mag.log2 - 52 : Nat) : Int) - 1074 - -1074).toNat = d + (mag.log2 - 52) from by omega]
          · split <;> omega
          · split <;> omega
    obtain ⟨k, c, e, hc, hl, hk, hN⟩ := key
    obtain ⟨hR, hlt⟩ := read_word s k c hc hl hk
    rw [e, Nat.min_eq_left (Nat.le_of_lt hlt)]
    refine ⟨_, hR, ?_⟩
    cases s
    · exact hN
    · exact hN.neg

theorem signed_scale (s : Bool) (m a b : Nat) : signed s m (a + b) = signed s m a * 2 ^ b := by
  rw [signed_eq, signed_eq, Int.pow_add, ← Int.mul_assoc]
  cases s
  · rfl
  · show -((m : Int) * 2 ^ a * 2 ^ b) = -((m : Int) * 2 ^ a) * 2 ^ b
    rw [Int.neg_mul]
theorem signed_total (t : Int) (k : Nat) : signed (decide (t < 0)) t.natAbs k = t * 2 ^ k := by
  rw [signed_eq]
  by_cases h : t < 0
  · simp only [h, decide_true, if_true]
    rw [← Int.neg_mul]; congr 1; omega
  · simp only [h, decide_false, Bool.false_eq_true, if_false]
    congr 1; omega

/-- the sum of two numbers, to the nearest -/
theorem sum_num {s t : Bool} {m n : Nat} {i j : Int} (hi : -1074 ≤ i) (hj : -1074 ≤ j) (hb : (sval s m i + sval t n j).natAbs < 2 ^ top) :
    ∃ r z, ((Datum.number s m i).sum (.number t n j)).map double.write = some r ∧ Num r z ∧ Near (sval s m i + sval t n j) z := by
  obtain ⟨base, hbase⟩ : ∃ base, base = min i j := ⟨_, rfl⟩
  have hb0 : -1074 ≤ base := by omega
  have ei : sval s m i = signed s m (i - base).toNat * 2 ^ (base + 1074).toNat := by
    unfold sval
    rw [← signed_scale]; congr 1; omega
  have ej : sval t n j = signed t n (j - base).toNat * 2 ^ (base + 1074).toNat := by
    unfold sval
    rw [← signed_scale]; congr 1; omega
  obtain ⟨T, hT⟩ : ∃ T, T = signed s m (i - base).toNat + signed t n (j - base).toNat := ⟨_, rfl⟩
  have eT : sval s m i + sval t n j = T * 2 ^ (base + 1074).toNat := by rw [ei, ej, hT, Int.add_mul]
  rw [eT] at hb ⊢
  have hw : ((Datum.number s m i).sum (.number t n j)).map double.write = some (double.nearest (if T = 0 then s && t else decide (T < 0)) T.natAbs base) := by
    rw [hT, hbase]; rfl
  rw [Int.natAbs_mul, natAbs_two] at hb
  obtain ⟨z, h1, h2⟩ := nearest_num (if T = 0 then s && t else decide (T < 0)) T.natAbs base (Or.inr hb0) hb
  refine ⟨_, z, hw, h1, ?_⟩
  have : sval (if T = 0 then s && t else decide (T < 0)) T.natAbs base = T * 2 ^ (base + 1074).toNat := by
    unfold sval
    by_cases h0 : T = 0
    · subst h0
      rw [signed_eq]; cases s <;> cases t <;> simp
    · rw [if_neg h0]; exact signed_total _ _
  rw [this] at h2
  exact h2
theorem add_num {x y : Nat} {a b : Int} (hx : Num x a) (hy : Num y b) (hb : (a + b).natAbs < 2 ^ top) : ∃ r z, double.add x y = some r ∧ Num r z ∧ Near (a + b) z := by
  obtain ⟨s, m, i, hr, h1, _, _, rfl⟩ := hx.ex
  obtain ⟨t, n, j, hr', h1', _, _, rfl⟩ := hy.ex
  unfold Format.add
  rw [hr, hr']
  exact sum_num h1 h1' hb
theorem sval_not (s : Bool) (m : Nat) (i : Int) : sval (!s) m i = - sval s m i := by
  unfold sval
  rw [signed_eq, signed_eq]
  cases s <;> simp
theorem sub_num {x y : Nat} {a b : Int} (hx : Num x a) (hy : Num y b) (hb : (a - b).natAbs < 2 ^ top) : ∃ r z, double.sub x y = some r ∧ Num r z ∧ Near (a - b) z := by
  obtain ⟨s, m, i, hr, h1, _, _, rfl⟩ := hx.ex
  obtain ⟨t, n, j, hr', h1', _, _, rfl⟩ := hy.ex
  unfold Format.sub
  rw [hr, hr']
  have e : sval s m i - sval t n j = sval s m i + sval (!t) n j := by rw [sval_not]; omega
  rw [e] at hb ⊢
  exact sum_num h1 h1' hb

/-- the order of two numbers -/
theorem order_num {x y : Nat} {a b : Int} (hx : Num x a) (hy : Num y b) : double.order x y = some (compare a b) := by
  obtain ⟨s, m, i, hr, h1, _, _, rfl⟩ := hx.ex
  obtain ⟨t, n, j, hr', h1', _, _, rfl⟩ := hy.ex
  unfold Format.order
  rw [hr, hr']
  show some (compare (signed s m (i - min i j).toNat) (signed t n (j - min i j).toNat)) = _
  obtain ⟨base, hbase⟩ : ∃ base, base = min i j := ⟨_, rfl⟩
  rw [← hbase]
  have ei : sval s m i = signed s m (i - base).toNat * 2 ^ (base + 1074).toNat := by
    unfold sval
    rw [← signed_scale]; congr 1; omega
  have ej : sval t n j = signed t n (j - base).toNat * 2 ^ (base + 1074).toNat := by
    unfold sval
    rw [← signed_scale]; congr 1; omega
  rw [ei, ej]
  have hp := two_pos (base + 1074).toNat
  generalize signed s m (i - base).toNat = p
  generalize signed t n (j - base).toNat = q
  generalize (2 : Int) ^ (base + 1074).toNat = K at hp
  congr 1
  rcases Int.lt_trichotomy p q with h | h | h
  · have h2 : p * K < q * K := Int.mul_lt_mul_of_pos_right h hp
    rw [show compare p q = .lt from by simp [compare, compareOfLessAndEq, h], show compare (p * K) (q * K) = .lt from by simp [compare, compareOfLessAndEq, h2]]
  · subst h
    rw [show compare p p = .eq from by simp [compare, compareOfLessAndEq], show compare (p * K) (p * K) = .eq from by simp [compare, compareOfLessAndEq]]
  · have h2 : q * K < p * K := Int.mul_lt_mul_of_pos_right h hp
    have n1 : ¬ p < q := by omega
    have n2 : ¬ p = q := by omega
    have n3 : ¬ p * K < q * K := by omega
    have n4 : ¬ p * K = q * K := by omega
    rw [show compare p q = .gt from by simp [compare, compareOfLessAndEq, n1, n2], show compare (p * K) (q * K) = .gt from by simp [compare, compareOfLessAndEq, n3, n4]]
end Flt

/- Products of floats in the model, in whole numbers of the least unit. No program is named here. -/
namespace Flt
open Ieee

theorem signed_mul (s t : Bool) (m n a b : Nat) : signed s m a * signed t n b = signed (s ^^ t) (m * n) (a + b) := by
  rw [signed_eq, signed_eq, signed_eq, Int.pow_add, Int.natCast_mul]
  have e : (m : Int) * 2 ^ a * ((n : Int) * 2 ^ b) = (m : Int) * (n : Int) * (2 ^ a * 2 ^ b) := by ac_rfl
  cases s <;> cases t
  · exact e
  · show (m : Int) * 2 ^ a * -((n : Int) * 2 ^ b) = -((m : Int) * (n : Int) * (2 ^ a * 2 ^ b))
    rw [Int.mul_neg, e]
  · show -((m : Int) * 2 ^ a) * ((n : Int) * 2 ^ b) = -((m : Int) * (n : Int) * (2 ^ a * 2 ^ b))
    rw [Int.neg_mul, e]
  · show -((m : Int) * 2 ^ a) * -((n : Int) * 2 ^ b) = (m : Int) * (n : Int) * (2 ^ a * 2 ^ b)
    rw [Int.neg_mul_neg, e]

theorem zero_left {x : Nat} (h : x = 0) (y : Nat) : x * y = 0 := by rw [h, Nat.zero_mul]
theorem two_posN (k : Nat) : 0 < 2 ^ k := Nat.pow_pos (by decide)

/-- the product of two numbers whose last places are not too low, to the nearest -/
theorem mul_num {x y : Nat} {a b p : Int} (hx : Num x a) (hy : Num y b) (hp : a * b = p * 2 ^ 1074) (hb : p.natAbs < 2 ^ top)
    (hplace : a = 0 ∨ b = 0 ∨ ∃ e f : Nat, 1074 ≤ e + f ∧ 2 ^ (52 + e) ≤ a.natAbs ∧ 2 ^ (52 + f) ≤ b.natAbs) : ∃ r z, double.mul x y = some r ∧ Num r z ∧ Near p z := by
  obtain ⟨s, m, i, hr, h1, _, h3, rfl⟩ := hx.ex
  obtain ⟨t, n, j, hr', h1', _, h3', rfl⟩ := hy.ex
  have hmul : double.mul x y = some (double.nearest (s ^^ t) (m * n) (i + j)) := by
    unfold Format.mul
    rw [hr, hr']; rfl
  rw [hmul]
  have hprod : sval s m i * sval t n j = signed (s ^^ t) (m * n) ((i + 1074).toNat + (j + 1074).toNat) := signed_mul _ _ _ _ _ _
  by_cases h0 : m * n = 0
  · have hz : sval s m i * sval t n j = 0 := by rw [hprod, h0, signed_eq]; simp
    have hp0 : p = 0 := by
      rw [hz] at hp
      have : (2 : Int) ^ 1074 ≠ 0 := Int.ne_of_gt (two_pos _)
      rcases Int.mul_eq_zero.1 hp.symm with h | h
      · exact h
      · exact absurd h this
    obtain ⟨z, hN, hZ⟩ := nearest_num (s ^^ t) (m * n) (i + j) (Or.inl h0) (Nat.lt_of_le_of_lt (Nat.le_of_eq (zero_left h0 _)) (two_posN top))
    refine ⟨_, z, rfl, hN, ?_⟩
    have : sval (s ^^ t) (m * n) (i + j) = 0 := by
      unfold sval
      rw [h0, signed_eq]; simp
    rw [this] at hZ
    rw [hp0]; exact hZ
  · have habs : ∀ (s : Bool) (m : Nat) (i : Int), (sval s m i).natAbs = m * 2 ^ (i + 1074).toNat := fun s m i => signed_abs _ _ _
    have hpl : -1074 ≤ i + j := by
      rcases hplace with h | h | ⟨e, f, hef, he, hf⟩
      · exfalso
        have := habs s m i
        rw [h] at this
        have hpos : 0 < 2 ^ (i + 1074).toNat := Nat.pow_pos (by decide)
        have hm0 : m ≠ 0 := fun hc => h0 (by rw [hc, Nat.zero_mul])
        have h9 := Nat.mul_pos (Nat.pos_of_ne_zero hm0) hpos
        rw [← this] at h9
        exact absurd h9 (by decide)
      · exfalso
        have := habs t n j
        rw [h] at this
        have hpos : 0 < 2 ^ (j + 1074).toNat := Nat.pow_pos (by decide)
        have hm0 : n ≠ 0 := fun hc => h0 (by rw [hc, Nat.mul_zero])
        have h9 := Nat.mul_pos (Nat.pos_of_ne_zero hm0) hpos
        rw [← this] at h9
        exact absurd h9 (by decide)
      · rw [habs] at he hf
        have he2 : m * 2 ^ (i + 1074).toNat < 2 ^ 53 * 2 ^ (i + 1074).toNat := Nat.mul_lt_mul_of_pos_right h3 (Nat.pow_pos (by decide))
        have hf2 : n * 2 ^ (j + 1074).toNat < 2 ^ 53 * 2 ^ (j + 1074).toNat := Nat.mul_lt_mul_of_pos_right h3' (Nat.pow_pos (by decide))
        rw [← Nat.pow_add] at he2 hf2
        have := two_lt (Nat.lt_of_le_of_lt he he2)
        have := two_lt (Nat.lt_of_le_of_lt hf hf2)
        omega
    have hval : sval (s ^^ t) (m * n) (i + j) = p := by
      have h4 : sval (s ^^ t) (m * n) (i + j) * 2 ^ 1074 = p * 2 ^ 1074 := by
        rw [← hp, hprod]
        unfold sval
        rw [← signed_scale]; congr 1; omega
      exact Int.eq_of_mul_eq_mul_right (Int.ne_of_gt (two_pos _)) h4
    have hb2 : m * n * 2 ^ (i + j + 1074).toNat < 2 ^ top := by
      have := habs (s ^^ t) (m * n) (i + j)
      rw [hval] at this
      rw [← this]; exact hb
    obtain ⟨z, hN, hZ⟩ := nearest_num (s ^^ t) (m * n) (i + j) (Or.inr hpl) hb2
    rw [hval] at hZ
    exact ⟨_, z, rfl, hN, hZ⟩
end Flt

/- The reference's Finite and Parts (layer 3). -/
namespace Go.Proofs.Ytpifkjmdcbieoaa
open Go.RowKit

theorem run_bits (x : Nat) (w : World) : (callFunc 31 #[.float .f64 x]).run Try.prog w = .ok (.value (.int .u64 (x : Int))) w := by kernel_rfl
theorem run_frombits (x : Int) (w : World) : (callFunc 35 #[.int .u64 x]).run Try.prog w = .ok (.value (.float .f64 x.toNat)) w := by kernel_rfl

theorem finite_any (x : Nat) (w : World) :
    Calls Try.prog 18 #[.float .f64 x] w fun e w' => e = .returned (.bool (decide (x % 9223372036854775808 < 9218868437227405312))) ∧ w = w' := by
  have hr := run_bits x w
  have hB := Lib.hid (show decide (x % 9223372036854775808 < 9218868437227405312) = (IntKind.u64.wrap ((x : Int) * 2) / 9007199254740992 != 2047) from by
    rw [IntKind.wrap_u64]
    by_cases h : x % 9223372036854775808 < 9218868437227405312
    · rw [decide_eq_true h]; symm; rw [bne_iff_ne]; omega
    · rw [decide_eq_false h]; symm; rw [bne_eq_false_iff_eq]; omega)
  go_enter Try.func18, Try.ntmps18
  go_wp2
  go_ret
  exact ⟨ret_bool hB.out.symm, rfl⟩

/-- the whole number and the place of a finite float -/
def pE (x : Nat) : Int := if 0 < x % 9223372036854775808 / 4503599627370496 then ((x % 9223372036854775808 / 4503599627370496 : Nat) : Int) - 1075 else -1074
def pA (x : Nat) : Nat := x % 4503599627370496 + if 0 < x % 9223372036854775808 / 4503599627370496 then 4503599627370496 else 0
def pM (x : Nat) : Int := if x / 9223372036854775808 = 1 then -(pA x : Int) else (pA x : Int)
theorem pA_lt (x : Nat) : pA x < 9007199254740992 := by unfold pA; split <;> omega
theorem pM_abs (x : Nat) : (pM x).natAbs = pA x := by unfold pM; split <;> omega
theorem pE_ge (x : Nat) : -1074 ≤ pE x := by unfold pE; split <;> omega
theorem pE_le {x : Nat} (h : x % 9223372036854775808 < 9218868437227405312) : pE x ≤ 971 := by unfold pE; split <;> omega
theorem pE_pos {x : Nat} (h : 0 < x % 9223372036854775808 / 4503599627370496) : pE x = ((x % 9223372036854775808 / 4503599627370496 : Nat) : Int) - 1075 ∧ pA x = x % 4503599627370496 + 4503599627370496 := ⟨if_pos h, by unfold pA; rw [if_pos h]⟩
theorem pE_zero {x : Nat} (h : ¬ 0 < x % 9223372036854775808 / 4503599627370496) : pE x = -1074 ∧ pA x = x % 4503599627370496 := ⟨if_neg h, by unfold pA; rw [if_neg h]; rfl⟩
theorem pM_neg {x : Nat} (h : x / 9223372036854775808 = 1) : pM x = -(pA x : Int) := if_pos h
theorem pM_pos {x : Nat} (h : ¬ x / 9223372036854775808 = 1) : pM x = (pA x : Int) := if_neg h
theorem num_parts {x : Nat} {n : Int} (h : Flt.Num x n) : n = pM x * 2 ^ (pE x + 1074).toNat := by
  have hlt := h.lt
  have hfin := h.fin
  rw [← h.val]
  unfold Flt.vI
  have h64 : (2 : Nat) ^ 64 = 18446744073709551616 := rfl
  have key : ∀ (s : Bool) (m : Nat) (i : Int), s = (x / 9223372036854775808 % 2 == 1) → m = pA x → (i + 1074).toNat = (pE x + 1074).toNat → Flt.sval s m i = pM x * 2 ^ (pE x + 1074).toNat := by
    intro s m i hs hm hi
    unfold Flt.sval
    rw [Flt.signed_eq, hi, hm, hs]
    by_cases h2 : x / 9223372036854775808 = 1
    · rw [pM_neg h2, h2, Int.neg_mul]; rfl
    · have h3 : x / 9223372036854775808 = 0 := by omega
      rw [pM_pos h2, h3]; rfl
  by_cases h1 : x % 9223372036854775808 < 4503599627370496
  · obtain ⟨e1, e2⟩ := pE_zero (x := x) (by omega)
    rw [Flt.read_small h1]
    exact key _ _ _ rfl (by omega) (by omega)
  · obtain ⟨e1, e2⟩ := pE_pos (x := x) (by omega)
    rw [Flt.read_mid h1 hfin]
    exact key _ _ _ rfl (by omega) (by omega)

theorem ret_parts {a b c d : Int} (h : a = b) (k : c = d) : Ending.returned (.tuple #[.int .i64 a, .int .i64 c]) = .returned (.tuple #[.int .i64 b, .int .i64 d]) := by rw [h, k]

theorem parts_any (x : Nat) (w : World) :
    Calls Try.prog 46 #[.float .f64 x] w fun e w' => e = .returned (.tuple #[.int .i64 (pM x), .int .i64 (pE x)]) ∧ w = w' := by
  have hr := run_bits x w
  have h64 : (2 : Nat) ^ 64 = 18446744073709551616 := rfl
  obtain ⟨E, hE⟩ : ∃ E : Int, E = ((x % 9223372036854775808 / 4503599627370496 : Nat) : Int) := ⟨_, rfl⟩
  obtain ⟨F, hF⟩ : ∃ F : Int, F = ((x % 4503599627370496 : Nat) : Int) := ⟨_, rfl⟩
  have eE : wrap64 (IntKind.u64.wrap ((x : Int) * 2) / 9007199254740992) = E := by rw [IntKind.wrap_u64]; unfold wrap64; omega
  have eF : wrap64 (IntKind.u64.wrap ((x : Int) * 4096) / 4096) = F := by rw [IntKind.wrap_u64]; unfold wrap64; omega
  have E0 : 0 ≤ E := by omega
  have E1 : E ≤ 2047 := by omega
  have F0 : 0 ≤ F := by omega
  have F1 : F < 4503599627370496 := by omega
  by_cases h1 : 0 < E
  · obtain ⟨p1, p2⟩ := pE_pos (x := x) (by omega)
    by_cases h2 : x / 9223372036854775808 = 1
    · have t2 : ((x : Int) / 9223372036854775808 == 1) = true := by rw [beq_iff_eq]; omega
      have R1 := Lib.hid (show -(F + 4503599627370496) = pM x by rw [pM_neg h2]; omega)
      have R2 := Lib.hid (show E - 1075 = pE x by omega)
      clear hE hF p1 p2 h2 h64
      go_enter Try.func46, Try.ntmps46
      go_wp2
      go_ret2
      exact ⟨ret_parts R1.out R2.out, rfl⟩
    · have t2 : ((x : Int) / 9223372036854775808 == 1) = false := by rw [beq_eq_false_iff_ne]; omega
      have R1 := Lib.hid (show F + 4503599627370496 = pM x by rw [pM_pos h2]; omega)
      have R2 := Lib.hid (show E - 1075 = pE x by omega)
      clear hE hF p1 p2 h2 h64
      go_enter Try.func46, Try.ntmps46
      go_wp2
      go_ret2
      exact ⟨ret_parts R1.out R2.out, rfl⟩
  · obtain ⟨p1, p2⟩ := pE_zero (x := x) (by omega)
    by_cases h2 : x / 9223372036854775808 = 1
    · have t2 : ((x : Int) / 9223372036854775808 == 1) = true := by rw [beq_iff_eq]; omega
      have R1 := Lib.hid (show -F = pM x by rw [pM_neg h2]; omega)
      have R2 := Lib.hid (show (-1074 : Int) = pE x by omega)
      clear hE hF p1 p2 h2 h64
      go_enter Try.func46, Try.ntmps46
      go_wp2
      go_ret2
      exact ⟨ret_parts R1.out R2.out, rfl⟩
    · have t2 : ((x : Int) / 9223372036854775808 == 1) = false := by rw [beq_eq_false_iff_ne]; omega
      have R1 := Lib.hid (show F = pM x by rw [pM_pos h2]; omega)
      have R2 := Lib.hid (show (-1074 : Int) = pE x by omega)
      clear hE hF p1 p2 h2 h64
      go_enter Try.func46, Try.ntmps46
      go_wp2
      go_ret2
      exact ⟨ret_parts R1.out R2.out, rfl⟩
end Go.Proofs.Ytpifkjmdcbieoaa

/- Long numbers as the reference of layer 3 has them: 110 limbs of 30 bits in memory. No program is named here. -/
namespace Go.Proofs.Ytpifkjmdcbieoaa
open Go.RowKit

/-- of what was there nothing turns but the cells of block g -/
structure Touch (g : Nat) (w w' : World) : Prop where
  below : Below g w w'
  only : ∀ k, k < w.heap.size → k ≠ g → w'.heap[k]? = w.heap[k]?
theorem Touch.refl (g : Nat) (w : World) : Touch g w w := ⟨Below.refl _ _, fun _ _ _ => rfl⟩
theorem Touch.trans {g : Nat} {a b c : World} (h : Touch g a b) (k : Touch g b c) : Touch g a c :=
  ⟨h.below.trans k.below, fun i hi hg => (k.only i (Nat.lt_of_lt_of_le hi h.below.size) hg).trans (h.only i hi hg)⟩
theorem Touch.drew {g : Nat} {a w : World} (h : Touch g a w) : Touch g a w.drew := ⟨h.below.drew, h.only⟩
theorem Touch.setCell {g : Nat} {a w : World} (h : Touch g a w) {p : Addr} (hp : p.block = g) (u : Value) : Touch g a (w.setCell p u) :=
  ⟨h.below.setCell (Nat.le_of_eq hp.symm) u, fun k hk hg => (Below.heap_setCell w p u k (by rw [hp]; exact hg)).trans (h.only k hk hg)⟩
theorem Touch.alloc {g : Nat} {a w : World} (h : Touch g a w) (hg : g < w.heap.size) (o : Obj) : Touch g a (w.alloc o) :=
  ⟨h.below.alloc (Nat.le_of_lt hg) o, fun k hk hk2 => (Below.heap_alloc w o k (Nat.lt_of_lt_of_le hk h.below.size)).trans (h.only k hk hk2)⟩
theorem Touch.cell {g : Nat} {w w' : World} (h : Touch g w w') {p : Addr} (hp : p.block < w.heap.size) (hg : p.block ≠ g) : w'.cell? p = w.cell? p := World.cell?_of_block (w := w) (h.only p.block hp hg)
theorem Touch.frozen {g : Nat} {w w' : World} (h : Touch g w w') {p : Addr} (hp : p.block < w.heap.size) (hg : p.block ≠ g) : w'.frozen? p = w.frozen? p := World.frozen?_of_block (w := w) (h.only p.block hp hg)
theorem Bel.touch {g : Nat} {w w' : World} (h : Bel w w') (hg : g ≤ w.heap.size) : Touch g w w' := ⟨Below.mono h hg, fun k hk _ => h.block k hk⟩
def LongAt (w : World) (g : Nat) (f : Nat → Int) : Prop := ∀ i, i < 110 → w.cell? ⟨g, i, none⟩ = some (.int .i64 (f i)) ∧ w.frozen? ⟨g, i, none⟩ = false
def lsum (f : Nat → Int) : Nat → Int
  | 0 => 0
  | n + 1 => lsum f n + f n * 2 ^ (30 * n)
def upd (f : Nat → Int) (k : Nat) (v : Int) : Nat → Int := fun i => if i = k then v else f i
theorem upd_same (f : Nat → Int) (k : Nat) (v : Int) : upd f k v k = v := if_pos rfl
theorem upd_other (f : Nat → Int) {k i : Nat} (v : Int) (h : i ≠ k) : upd f k v i = f i := if_neg h
theorem lsum_congr {f h : Nat → Int} : ∀ n, (∀ i, i < n → f i = h i) → lsum f n = lsum h n
  | 0, _ => rfl
  | n + 1, e => by
    show lsum f n + f n * _ = lsum h n + h n * _
    rw [lsum_congr n fun i hi => e i (by omega), e n (by omega)]
theorem lsum_upd (f : Nat → Int) (k : Nat) (d : Int) : ∀ n, k < n → lsum (upd f k (f k + d)) n = lsum f n + d * 2 ^ (30 * k)
  | n + 1, h => by
    show lsum (upd f k (f k + d)) n + upd f k (f k + d) n * _ = lsum f n + f n * _ + _
    by_cases c : k = n
    · subst c
      rw [upd_same, lsum_congr (h := f) k fun i hi => upd_other f _ (by omega), Int.add_mul]; omega
    · rw [upd_other f _ (by omega), lsum_upd f k d n (by omega)]; omega
theorem LongAt.put {w : World} {g : Nat} {f : Nat → Int} (h : LongAt w g f) {k : Nat} (hk : k < 110) (v : Int) : LongAt (w.setCell ⟨g, k, none⟩ (.int .i64 v)) g (upd f k v) := by
  intro i hi
  refine ⟨?_, by rw [World.frozen?_setCell]; exact (h i hi).2⟩
  by_cases c : i = k
  · subst c
    rw [upd_same]
    exact World.cell?_setCell_same' w _ _ (by rw [(h i hi).1]; rfl)
  · rw [upd_other f v c, World.cell?_setCell_other]
    · exact (h i hi).1
    · intro e
      cases e
      exact c rfl
/-- the value, in units of 2^-1200 -/
noncomputable def lval (f : Nat → Int) : Int := Classical.choose (⟨lsum f 110, rfl⟩ : ∃ v, v = lsum f 110)
theorem lval_eq (f : Nat → Int) : lval f = lsum f 110 := Classical.choose_spec (⟨lsum f 110, rfl⟩ : ∃ v, v = lsum f 110)
theorem lval_upd (f : Nat → Int) {k : Nat} (h : k < 110) (d : Int) : lval (upd f k (f k + d)) = lval f + d * 2 ^ (30 * k) := by
  rw [lval_eq, lval_eq]; exact lsum_upd f k d 110 h

theorem pw (j : Nat) : ((2 ^ j : Nat) : Int) = (2 : Int) ^ j := by rw [Int.natCast_pow]; rfl
theorem sg_abs (neg : Bool) (X : Nat) : ((if neg then -1 else 1) * (X : Int)).natAbs = X := by
  cases neg
  · show (1 * (X : Int)).natAbs = X
    omega
  · show (-1 * (X : Int)).natAbs = X
    omega
/-- the state of Put's loop -/
structure PutInv (m : Nat) (neg : Bool) (at' : Nat) (f0 f : Nat → Int) (i u : Nat) : Prop where
  u : u = m / 2 ^ (30 * i)
  val : lval f = lval f0 + (if neg then -1 else 1) * ((m % 2 ^ (30 * i) : Nat) : Int) * 2 ^ at'
  le : ∀ j, (f j - f0 j).natAbs ≤ i * 1073741824
theorem PutInv.start (m : Nat) (neg : Bool) (at' : Nat) (f : Nat → Int) : PutInv m neg at' f f 0 m :=
  ⟨by simp, by simp [Nat.mod_one], fun j => by simp⟩
/-- one round: a piece of 30 bits, moved, in two limbs -/
theorem PutInv.next {m : Nat} {neg : Bool} {at' : Nat} {f0 f : Nat → Int} {i u k s : Nat} (h : PutInv m neg at' f0 f i u) (hat : at' = 30 * k + s) (hs : s < 30) (hk : k + i + 1 < 110) {low high : Int}
    (hl : low = (if neg then -1 else 1) * ((u % 1073741824 * 2 ^ s % 1073741824 : Nat) : Int)) (hh : high = (if neg then -1 else 1) * ((u % 1073741824 * 2 ^ s / 1073741824 : Nat) : Int)) :
    PutInv m neg at' f0 (upd (upd f (k + i) (f (k + i) + low)) (k + i + 1) (upd f (k + i) (f (k + i) + low) (k + i + 1) + high)) (i + 1) (u / 1073741824) := by
  have p30 : (2 : Nat) ^ 30 = 1073741824 := rfl
  have hq : u % 1073741824 * 2 ^ s < 1073741824 * 1073741824 := by
    have h1 : u % 1073741824 < 1073741824 := Nat.mod_lt _ (by decide)
    have h2 : 2 ^ s ≤ 2 ^ 30 := Nat.pow_le_pow_right (by decide) (by omega)
    calc u % 1073741824 * 2 ^ s ≤ u % 1073741824 * 2 ^ 30 := Nat.mul_le_mul_left _ h2
      _ < 1073741824 * 1073741824 := by rw [p30]; exact Nat.mul_lt_mul_of_pos_right h1 (by decide)
  refine ⟨?_, ?_, ?_⟩
  · rw [h.u, Nat.div_div_eq_div_mul, show 30 * (i + 1) = 30 * i + 30 from by omega, Nat.pow_add]
  · rw [lval_upd _ (by omega), lval_upd f (by omega), h.val, hl, hh]
    have e1 : m % 2 ^ (30 * (i + 1)) = m % 2 ^ (30 * i) + (u % 1073741824) * 2 ^ (30 * i) := by
      rw [show 30 * (i + 1) = 30 * i + 30 from by omega, Nat.pow_add, Nat.mod_mul, h.u]
      exact congrArg (m % 2 ^ (30 * i) + ·) (Nat.mul_comm _ _)
    have e2 : u % 1073741824 * 2 ^ s = u % 1073741824 * 2 ^ s % 1073741824 + 1073741824 * (u % 1073741824 * 2 ^ s / 1073741824) := (Nat.mod_add_div _ _).symm
    obtain ⟨q, hq⟩ : ∃ q, q = u % 1073741824 * 2 ^ s := ⟨_, rfl⟩
    obtain ⟨sg, hsg⟩ : ∃ sg : Int, sg = (if neg then -1 else 1) := ⟨_, rfl⟩
    rw [← hsg, ← hq, e1]
    rw [← hq] at e2
    have e3 : ((q % 1073741824 : Nat) : Int) * 2 ^ (30 * (k + i)) + ((q / 1073741824 : Nat) : Int) * 2 ^ (30 * (k + i + 1)) = (q : Int) * 2 ^ (30 * (k + i)) := by
      rw [show 30 * (k + i + 1) = 30 * (k + i) + 30 from by omega, Int.pow_add]
      have : (q : Int) = ((q % 1073741824 : Nat) : Int) + 1073741824 * ((q / 1073741824 : Nat) : Int) := by omega
      obtain ⟨A, hA⟩ : ∃ A, A = ((q % 1073741824 : Nat) : Int) := ⟨_, rfl⟩
      obtain ⟨B, hB⟩ : ∃ B, B = ((q / 1073741824 : Nat) : Int) := ⟨_, rfl⟩
      rw [← hA, ← hB] at this ⊢
      rw [this, Int.add_mul]
      have e30 : (2 : Int) ^ 30 = 1073741824 := rfl
      rw [e30]
      have h5 : B * (2 ^ (30 * (k + i)) * 1073741824) = 1073741824 * B * 2 ^ (30 * (k + i)) := by ac_rfl
      rw [h5]
    have e4 : (q : Int) * 2 ^ (30 * (k + i)) = ((u % 1073741824 * 2 ^ (30 * i) : Nat) : Int) * 2 ^ at' := by
      rw [hq, hat, Int.natCast_mul, Int.natCast_mul, pw, pw, show 30 * (k + i) = 30 * k + 30 * i from by omega, Int.pow_add, Int.pow_add]
      ac_rfl
    obtain ⟨T, hT⟩ : ∃ T : Int, T = ((u % 1073741824 * 2 ^ (30 * i) : Nat) : Int) := ⟨_, rfl⟩
    rw [← hT] at e4
    rw [Int.natCast_add, ← hT, Int.mul_add, Int.add_mul, Int.mul_assoc sg T, ← e4, ← e3]
    have h7 : sg * ((q % 1073741824 : Nat) : Int) * 2 ^ (30 * (k + i)) + sg * ((q / 1073741824 : Nat) : Int) * 2 ^ (30 * (k + i + 1)) =
        sg * (((q % 1073741824 : Nat) : Int) * 2 ^ (30 * (k + i)) + ((q / 1073741824 : Nat) : Int) * 2 ^ (30 * (k + i + 1))) := by
      rw [Int.mul_add, Int.mul_assoc, Int.mul_assoc]
    omega
  · intro j
    have hj := h.le j
    have b1 : u % 1073741824 * 2 ^ s % 1073741824 < 1073741824 := Nat.mod_lt _ (by decide)
    have b2 : u % 1073741824 * 2 ^ s / 1073741824 < 1073741824 := by
      refine (Nat.div_lt_iff_lt_mul (by decide)).2 hq
    have l1 : low.natAbs < 1073741824 := by rw [hl, sg_abs]; exact b1
    have l2 : high.natAbs < 1073741824 := by rw [hh, sg_abs]; exact b2
    clear hl hh hq b1 b2 hat h p30
    rw [show (i + 1) * 1073741824 = i * 1073741824 + 1073741824 from by rw [Nat.add_mul, Nat.one_mul]]
    obtain ⟨X, hX⟩ : ∃ X, X = i * 1073741824 := ⟨_, rfl⟩
    rw [← hX] at hj ⊢
    clear hX
    unfold upd
    by_cases c1 : j = k + i + 1
    · rw [if_pos c1, if_neg (by omega : ¬ k + i + 1 = k + i)]
      subst c1
      omega
    · rw [if_neg c1]
      by_cases c2 : j = k + i
      · rw [if_pos c2]
        subst c2
        omega
      · rw [if_neg c2]; omega
/-- one round, the sign given -/
theorem PutInv.next_t {m : Nat} {at' : Nat} {f0 f : Nat → Int} {i u k s : Nat} (h : PutInv m true at' f0 f i u) (hat : at' = 30 * k + s) (hs : s < 30) (hk : k + i + 1 < 110) :
    PutInv m true at' f0 (upd (upd f (k + i) (f (k + i) + -((u % 1073741824 * 2 ^ s % 1073741824 : Nat) : Int))) (k + i + 1) (upd f (k + i) (f (k + i) + -((u % 1073741824 * 2 ^ s % 1073741824 : Nat) : Int)) (k + i + 1) + -((u % 1073741824 * 2 ^ s / 1073741824 : Nat) : Int))) (i + 1) (u / 1073741824) :=
  h.next hat hs hk (by rw [if_pos rfl, Int.neg_mul, Int.one_mul]) (by rw [if_pos rfl, Int.neg_mul, Int.one_mul])
theorem PutInv.next_f {m : Nat} {at' : Nat} {f0 f : Nat → Int} {i u k s : Nat} (h : PutInv m false at' f0 f i u) (hat : at' = 30 * k + s) (hs : s < 30) (hk : k + i + 1 < 110) :
    PutInv m false at' f0 (upd (upd f (k + i) (f (k + i) + ((u % 1073741824 * 2 ^ s % 1073741824 : Nat) : Int))) (k + i + 1) (upd f (k + i) (f (k + i) + ((u % 1073741824 * 2 ^ s % 1073741824 : Nat) : Int)) (k + i + 1) + ((u % 1073741824 * 2 ^ s / 1073741824 : Nat) : Int))) (i + 1) (u / 1073741824) :=
  h.next hat hs hk (by rw [if_neg (by decide), Int.one_mul]) (by rw [if_neg (by decide), Int.one_mul])
end Go.Proofs.Ytpifkjmdcbieoaa

namespace Go.Proofs.Ytpifkjmdcbieoaa
open Go.RowKit
theorem bits_30 (x : Int) (h0 : 0 ≤ x) (h1 : x ≤ 18446744073709551615) : bits .and .u64 x 1073741823 = x % 1073741824 := by
  obtain ⟨n, rfl⟩ := Int.eq_ofNat_of_zero_le h0
  have h2 : (BitVec.ofInt 64 (n : Int)).toNat = n := by
    rw [BitVec.ofInt_natCast, BitVec.toNat_ofNat]; exact Nat.mod_eq_of_lt (by omega)
  show IntKind.u64.wrap ((BitVec.ofInt 64 (n : Int) &&& BitVec.ofInt 64 1073741823).toNat : Int) = _
  rw [BitVec.toNat_and, h2]
  have h3 : (BitVec.ofInt 64 1073741823).toNat = 2 ^ 30 - 1 := by decide
  rw [h3, Nat.and_two_pow_sub_one_eq_mod, IntKind.wrap_u64]
  omega
theorem bits_30n (x : Nat) (h1 : x ≤ 18446744073709551615) : bits .and .u64 (x : Int) 1073741823 = ((x % 1073741824 : Nat) : Int) := by
  rw [bits_30 _ (by omega) (by omega)]; omega
theorem shl_small {P s : Nat} (hP : P < 1073741824) (hs : s < 30) : P * 2 ^ s < 1152921504606846976 ∧ IntKind.u64.wrap ((P : Int) * 2 ^ s) = ((P * 2 ^ s : Nat) : Int) := by
  have h1 : 2 ^ s ≤ 2 ^ 30 := Nat.pow_le_pow_right (by decide) (by omega)
  have h2 : P * 2 ^ s ≤ P * 2 ^ 30 := Nat.mul_le_mul_left _ h1
  have h3 : P * 2 ^ 30 < 1073741824 * 2 ^ 30 := Nat.mul_lt_mul_of_pos_right hP (by decide)
  have h4 : (1073741824 * 2 ^ 30 : Nat) = 1152921504606846976 := by decide
  have h5 : P * 2 ^ s < 1152921504606846976 := by rw [← h4]; exact Nat.lt_of_le_of_lt h2 h3
  refine ⟨h5, ?_⟩
  have : (P : Int) * 2 ^ s = ((P * 2 ^ s : Nat) : Int) := by rw [Int.natCast_mul, pw]
  rw [this]
  generalize P * 2 ^ s = Q at h5
  rw [IntKind.wrap_u64]; omega
theorem wrap64_nat {L : Nat} (h : L < 1073741824) : wrap64 (L : Int) = (L : Int) ∧ wrap64 (-(L : Int)) = -(L : Int) := by unfold wrap64; omega
theorem fold {Q : Nat} (hQ : Q < 1152921504606846976) : ∃ a b : Int, bits .and .u64 (Q : Int) 1073741823 = a ∧ (Q : Int) / 1073741824 = b ∧ a = ((Q % 1073741824 : Nat) : Int) ∧ b = ((Q / 1073741824 : Nat) : Int) ∧ 0 ≤ a ∧ a < 1073741824 ∧ 0 ≤ b ∧ b < 1073741824 := by
  refine ⟨((Q % 1073741824 : Nat) : Int), ((Q / 1073741824 : Nat) : Int), bits_30n Q (by omega), ?_, rfl, rfl, ?_, ?_, ?_, ?_⟩
  all_goals omega
theorem limb_bound {x f : Int} {i : Nat} (hi : i ≤ 3) (h : (x - f).natAbs ≤ i * 1073741824) (hf : f.natAbs ≤ 1152921504606846976) : -1152921507828072449 < x ∧ x < 1152921507828072449 := by
  have h1 := Nat.le_trans h (Nat.mul_le_mul_right 1073741824 hi)
  have h2 : 3 * 1073741824 = 3221225472 := rfl
  rw [h2] at h1
  omega
theorem wrap_sum {v a : Int} (hv : -1152921507828072449 < v ∧ v < 1152921507828072449) (ha : -1073741825 < a ∧ a < 1073741825) : IntKind.i64.wrap (v + a) = v + a := by
  rw [IntKind.wrap_i64]; omega
theorem wrap_idx {k i J : Nat} (h : J = k + i) (hJ : J < 110) : IntKind.i64.wrap ((k : Int) + (i : Int)) = (J : Int) ∧ IntKind.i64.wrap ((J : Int) + 1) = (J : Int) + 1 := by
  rw [IntKind.wrap_i64, IntKind.wrap_i64]; omega
end Go.Proofs.Ytpifkjmdcbieoaa
