/- Long numbers as the reference of layer 3 has them: 110 limbs of 30 bits in memory. No program is named here. -/
import Derived.Test.YtknlpggbaahajaaBase
namespace Go.Proofs.Ytknlpggbaahajaa
open Go.RowKit

def LongAt (w : World) (g : Nat) (f : Nat → Int) : Prop := ∀ i, i < 110 → w.cell? ⟨g, i, none⟩ = some (.int .i64 (f i)) ∧ w.frozen? ⟨g, i, none⟩ = false
def lsum (f : Nat → Int) : Nat → Int
  | 0 => 0
  | n + 1 => lsum f n + f n * 2 ^ (30 * n)
def upd (f : Nat → Int) (k : Nat) (v : Int) : Nat → Int := fun i => if i = k then v else f i
theorem upd_same (f : Nat → Int) (k : Nat) (v : Int) : upd f k v k = v := if_pos rfl
theorem upd_other (f : Nat → Int) {k i : Nat} (v : Int) (h : i ≠ k) : upd f k v i = f i := if_neg h
theorem lsum_congr {f h : Nat → Int} : ∀ n, (∀ i, i < n → f i = h i) → lsum f n = lsum h n
  | 0, _ => rfl
  | n + 1, e => by
    show lsum f n + f n * _ = lsum h n + h n * _
    rw [lsum_congr n fun i hi => e i (by omega), e n (by omega)]
theorem lsum_upd (f : Nat → Int) (k : Nat) (d : Int) : ∀ n, k < n → lsum (upd f k (f k + d)) n = lsum f n + d * 2 ^ (30 * k)
  | n + 1, h => by
    show lsum (upd f k (f k + d)) n + upd f k (f k + d) n * _ = lsum f n + f n * _ + _
    by_cases c : k = n
    · subst c
      rw [upd_same, lsum_congr (h := f) k fun i hi => upd_other f _ (by omega), Int.add_mul]; omega
    · rw [upd_other f _ (by omega), lsum_upd f k d n (by omega)]; omega
theorem LongAt.put {w : World} {g : Nat} {f : Nat → Int} (h : LongAt w g f) {k : Nat} (hk : k < 110) (v : Int) : LongAt (w.setCell ⟨g, k, none⟩ (.int .i64 v)) g (upd f k v) := by
  intro i hi
  refine ⟨?_, by rw [World.frozen?_setCell]; exact (h i hi).2⟩
  by_cases c : i = k
  · subst c
    rw [upd_same]
    exact World.cell?_setCell_same' w _ _ (by rw [(h i hi).1]; rfl)
  · rw [upd_other f v c, World.cell?_setCell_other]
    · exact (h i hi).1
    · intro e
      cases e
      exact c rfl
/-- the value, in units of 2^-1200 -/
noncomputable def lval (f : Nat → Int) : Int := Classical.choose (⟨lsum f 110, rfl⟩ : ∃ v, v = lsum f 110)
theorem lval_eq (f : Nat → Int) : lval f = lsum f 110 := Classical.choose_spec (⟨lsum f 110, rfl⟩ : ∃ v, v = lsum f 110)
theorem lval_upd (f : Nat → Int) {k : Nat} (h : k < 110) (d : Int) : lval (upd f k (f k + d)) = lval f + d * 2 ^ (30 * k) := by
  rw [lval_eq, lval_eq]; exact lsum_upd f k d 110 h

theorem pw (j : Nat) : ((2 ^ j : Nat) : Int) = (2 : Int) ^ j := by rw [Int.natCast_pow]; rfl
theorem sg_abs (neg : Bool) (X : Nat) : ((if neg then -1 else 1) * (X : Int)).natAbs = X := by
  cases neg
  · show (1 * (X : Int)).natAbs = X
    omega
  · show (-1 * (X : Int)).natAbs = X
    omega
/-- the state of Put's loop -/
structure PutInv (m : Nat) (neg : Bool) (at' : Nat) (f0 f : Nat → Int) (i u : Nat) : Prop where
  u : u = m / 2 ^ (30 * i)
  val : lval f = lval f0 + (if neg then -1 else 1) * ((m % 2 ^ (30 * i) : Nat) : Int) * 2 ^ at'
  le : ∀ j, (f j - f0 j).natAbs ≤ i * 1073741824
theorem PutInv.start (m : Nat) (neg : Bool) (at' : Nat) (f : Nat → Int) : PutInv m neg at' f f 0 m :=
  ⟨by simp, by simp [Nat.mod_one], fun j => by simp⟩
/-- one round: a piece of 30 bits, moved, in two limbs -/
theorem PutInv.next {m : Nat} {neg : Bool} {at' : Nat} {f0 f : Nat → Int} {i u k s : Nat} (h : PutInv m neg at' f0 f i u) (hat : at' = 30 * k + s) (hs : s < 30) (hk : k + i + 1 < 110) {low high : Int}
    (hl : low = (if neg then -1 else 1) * ((u % 1073741824 * 2 ^ s % 1073741824 : Nat) : Int)) (hh : high = (if neg then -1 else 1) * ((u % 1073741824 * 2 ^ s / 1073741824 : Nat) : Int)) :
    PutInv m neg at' f0 (upd (upd f (k + i) (f (k + i) + low)) (k + i + 1) (upd f (k + i) (f (k + i) + low) (k + i + 1) + high)) (i + 1) (u / 1073741824) := by
  have p30 : (2 : Nat) ^ 30 = 1073741824 := rfl
  have hq : u % 1073741824 * 2 ^ s < 1073741824 * 1073741824 := by
    have h1 : u % 1073741824 < 1073741824 := Nat.mod_lt _ (by decide)
    have h2 : 2 ^ s ≤ 2 ^ 30 := Nat.pow_le_pow_right (by decide) (by omega)
    calc u % 1073741824 * 2 ^ s ≤ u % 1073741824 * 2 ^ 30 := Nat.mul_le_mul_left _ h2
      _ < 1073741824 * 1073741824 := by rw [p30]; exact Nat.mul_lt_mul_of_pos_right h1 (by decide)
  refine ⟨?_, ?_, ?_⟩
  · rw [h.u, Nat.div_div_eq_div_mul, show 30 * (i + 1) = 30 * i + 30 from by omega, Nat.pow_add]
  · rw [lval_upd _ (by omega), lval_upd f (by omega), h.val, hl, hh]
    have e1 : m % 2 ^ (30 * (i + 1)) = m % 2 ^ (30 * i) + (u % 1073741824) * 2 ^ (30 * i) := by
      rw [show 30 * (i + 1) = 30 * i + 30 from by omega, Nat.pow_add, Nat.mod_mul, h.u]
      exact congrArg (m % 2 ^ (30 * i) + ·) (Nat.mul_comm _ _)
    have e2 : u % 1073741824 * 2 ^ s = u % 1073741824 * 2 ^ s % 1073741824 + 1073741824 * (u % 1073741824 * 2 ^ s / 1073741824) := (Nat.mod_add_div _ _).symm
    obtain ⟨q, hq⟩ : ∃ q, q = u % 1073741824 * 2 ^ s := ⟨_, rfl⟩
    obtain ⟨sg, hsg⟩ : ∃ sg : Int, sg = (if neg then -1 else 1) := ⟨_, rfl⟩
    rw [← hsg, ← hq, e1]
    rw [← hq] at e2
    have e3 : ((q % 1073741824 : Nat) : Int) * 2 ^ (30 * (k + i)) + ((q / 1073741824 : Nat) : Int) * 2 ^ (30 * (k + i + 1)) = (q : Int) * 2 ^ (30 * (k + i)) := by
      rw [show 30 * (k + i + 1) = 30 * (k + i) + 30 from by omega, Int.pow_add]
      have : (q : Int) = ((q % 1073741824 : Nat) : Int) + 1073741824 * ((q / 1073741824 : Nat) : Int) := by omega
      obtain ⟨A, hA⟩ : ∃ A, A = ((q % 1073741824 : Nat) : Int) := ⟨_, rfl⟩
      obtain ⟨B, hB⟩ : ∃ B, B = ((q / 1073741824 : Nat) : Int) := ⟨_, rfl⟩
      rw [← hA, ← hB] at this ⊢
      rw [this, Int.add_mul]
      have e30 : (2 : Int) ^ 30 = 1073741824 := rfl
      rw [e30]
      have h5 : B * (2 ^ (30 * (k + i)) * 1073741824) = 1073741824 * B * 2 ^ (30 * (k + i)) := by ac_rfl
      rw [h5]
    have e4 : (q : Int) * 2 ^ (30 * (k + i)) = ((u % 1073741824 * 2 ^ (30 * i) : Nat) : Int) * 2 ^ at' := by
      rw [hq, hat, Int.natCast_mul, Int.natCast_mul, pw, pw, show 30 * (k + i) = 30 * k + 30 * i from by omega, Int.pow_add, Int.pow_add]
      ac_rfl
    obtain ⟨T, hT⟩ : ∃ T : Int, T = ((u % 1073741824 * 2 ^ (30 * i) : Nat) : Int) := ⟨_, rfl⟩
    rw [← hT] at e4
    rw [Int.natCast_add, ← hT, Int.mul_add, Int.add_mul, Int.mul_assoc sg T, ← e4, ← e3]
    have h7 : sg * ((q % 1073741824 : Nat) : Int) * 2 ^ (30 * (k + i)) + sg * ((q / 1073741824 : Nat) : Int) * 2 ^ (30 * (k + i + 1)) =
        sg * (((q % 1073741824 : Nat) : Int) * 2 ^ (30 * (k + i)) + ((q / 1073741824 : Nat) : Int) * 2 ^ (30 * (k + i + 1))) := by
      rw [Int.mul_add, Int.mul_assoc, Int.mul_assoc]
    omega
  · intro j
    have hj := h.le j
    have b1 : u % 1073741824 * 2 ^ s % 1073741824 < 1073741824 := Nat.mod_lt _ (by decide)
    have b2 : u % 1073741824 * 2 ^ s / 1073741824 < 1073741824 := by
      refine (Nat.div_lt_iff_lt_mul (by decide)).2 hq
    have l1 : low.natAbs < 1073741824 := by rw [hl, sg_abs]; exact b1
    have l2 : high.natAbs < 1073741824 := by rw [hh, sg_abs]; exact b2
    clear hl hh hq b1 b2 hat h p30
    rw [show (i + 1) * 1073741824 = i * 1073741824 + 1073741824 from by rw [Nat.add_mul, Nat.one_mul]]
    obtain ⟨X, hX⟩ : ∃ X, X = i * 1073741824 := ⟨_, rfl⟩
    rw [← hX] at hj ⊢
    clear hX
    unfold upd
    by_cases c1 : j = k + i + 1
    · rw [if_pos c1, if_neg (by omega : ¬ k + i + 1 = k + i)]
      subst c1
      omega
    · rw [if_neg c1]
      by_cases c2 : j = k + i
      · rw [if_pos c2]
        subst c2
        omega
      · rw [if_neg c2]; omega
/-- one round, the sign given -/
theorem PutInv.next_t {m : Nat} {at' : Nat} {f0 f : Nat → Int} {i u k s : Nat} (h : PutInv m true at' f0 f i u) (hat : at' = 30 * k + s) (hs : s < 30) (hk : k + i + 1 < 110) :
    PutInv m true at' f0 (upd (upd f (k + i) (f (k + i) + -((u % 1073741824 * 2 ^ s % 1073741824 : Nat) : Int))) (k + i + 1) (upd f (k + i) (f (k + i) + -((u % 1073741824 * 2 ^ s % 1073741824 : Nat) : Int)) (k + i + 1) + -((u % 1073741824 * 2 ^ s / 1073741824 : Nat) : Int))) (i + 1) (u / 1073741824) :=
  h.next hat hs hk (by rw [if_pos rfl, Int.neg_mul, Int.one_mul]) (by rw [if_pos rfl, Int.neg_mul, Int.one_mul])
theorem PutInv.next_f {m : Nat} {at' : Nat} {f0 f : Nat → Int} {i u k s : Nat} (h : PutInv m false at' f0 f i u) (hat : at' = 30 * k + s) (hs : s < 30) (hk : k + i + 1 < 110) :
    PutInv m false at' f0 (upd (upd f (k + i) (f (k + i) + ((u % 1073741824 * 2 ^ s % 1073741824 : Nat) : Int))) (k + i + 1) (upd f (k + i) (f (k + i) + ((u % 1073741824 * 2 ^ s % 1073741824 : Nat) : Int)) (k + i + 1) + ((u % 1073741824 * 2 ^ s / 1073741824 : Nat) : Int))) (i + 1) (u / 1073741824) :=
  h.next hat hs hk (by rw [if_neg (by decide), Int.one_mul]) (by rw [if_neg (by decide), Int.one_mul])
end Go.Proofs.Ytknlpggbaahajaa
