/- The least power of two above a list of floats: in words. -/
import Derived.Test.YtknlpggbaahajaaTwoW
import Derived.Test.YtknlpggbaahajaaAbs
namespace Flt
open Ieee

theorem tw_true_mono {a b : Nat} (h : a ≤ b) (hb : b ≤ 1074) : tw true b ≤ tw true a := by
  unfold tw
  simp only
  by_cases h1 : b ≤ 1022
  · rw [if_pos h1, if_pos (by omega : a ≤ 1022)]
    exact Nat.mul_le_mul_right _ (by omega)
  · rw [if_neg h1, if_pos hb]
    have h2 : 2 ^ (1074 - b) ≤ 2 ^ 51 := Nat.pow_le_pow_right (by decide) (by omega)
    have e51 : (2 : Nat) ^ 51 = 2251799813685248 := rfl
    by_cases h3 : a ≤ 1022
    · rw [if_pos h3]
      have : 1 * 4503599627370496 ≤ (1023 - a) * 4503599627370496 := Nat.mul_le_mul_right _ (by omega)
      omega
    · rw [if_neg h3, if_pos (by omega : a ≤ 1074)]
      exact Nat.pow_le_pow_right (by decide) (by omega)
theorem tw_false_mono {a b : Nat} (h : a ≤ b) (hb : b ≤ 1024) : tw false a ≤ tw false b := by
  unfold tw
  simp only
  by_cases h1 : b ≤ 1023
  · rw [if_pos h1, if_pos (by omega : a ≤ 1023)]
    exact Nat.mul_le_mul_right _ (by omega)
  · rw [if_neg h1]
    split <;> omega
theorem tw_tf (a b : Nat) : tw true a ≤ tw false b := by
  unfold tw
  simp only
  have h1 : (if a ≤ 1022 then (1023 - a) * 4503599627370496 else if a ≤ 1074 then 2 ^ (1074 - a) else 0) ≤ 1023 * 4503599627370496 := by
    split
    · exact Nat.mul_le_mul_right _ (by omega)
    · split
      · have h2 : 2 ^ (1074 - a) ≤ 2 ^ 51 := Nat.pow_le_pow_right (by decide) (by omega)
        have e51 : (2 : Nat) ^ 51 = 2251799813685248 := rfl
        omega
      · omega
  refine Nat.le_trans h1 ?_
  split <;> omega
theorem twK_mono {j k : Int} (hj : -1074 ≤ j) (h : j ≤ k) (hk : k ≤ 1024) : twK j ≤ twK k := by
  unfold twK
  by_cases h1 : k < 0
  · rw [decide_eq_true h1, decide_eq_true (show j < 0 by omega)]
    exact tw_true_mono (by omega) (by omega)
  · rw [decide_eq_false h1]
    by_cases h2 : j < 0
    · rw [decide_eq_true h2]; exact tw_tf _ _
    · rw [decide_eq_false h2]; exact tw_false_mono (by omega) (by omega)
theorem twK_top : twK 1024 = 9218868437227405312 := by decide
theorem twK_fin {k : Int} (h0 : -1074 ≤ k) (hk : k ≤ 1023) : twK k < 9218868437227405312 := by
  have := twK_mono h0 hk (by decide)
  have e : twK 1023 = 9214364837600034816 := by decide
  omega
theorem twK_pos {k : Int} (h0 : -1074 ≤ k) (hk : k ≤ 1024) : 0 < twK k := by
  have := twK_mono (j := -1074) (by decide) h0 hk
  have e : twK (-1074) = 1 := by decide
  omega

/-- k is the least power of two above M -/
structure IsTop (M : Nat) (k : Int) : Prop where
  lo : -1074 ≤ k
  hi : k ≤ 1024
  lt : M < twK k
  le : ∀ j, -1074 ≤ j → j < k → twK j ≤ M
theorem IsTop.unique {M : Nat} {j k : Int} (h : IsTop M j) (h' : IsTop M k) : j = k := by
  rcases Int.lt_trichotomy j k with c | c | c
  · have := h'.le j h.lo c
    have := h.lt
    omega
  · exact c
  · have := h.le k h'.lo c
    have := h'.lt
    omega

/-- the greatest magnitude's word -/
def gm (l : List Nat) : Nat := l.foldl (fun m x => max m (x % 9223372036854775808)) 0
theorem gm_snoc (l : List Nat) (x : Nat) : gm (l ++ [x]) = max (gm l) (x % 9223372036854775808) := by
  unfold gm
  rw [List.foldl_append]; rfl
theorem gm_take {l : List Nat} {i x : Nat} (h : l[i]? = some x) : gm (l.take (i + 1)) = max (gm (l.take i)) (x % 9223372036854775808) := by
  rw [List.take_add_one, h]
  exact gm_snoc _ _
/-- all are finite -/
def Fins (l : List Nat) : Prop := ∀ x ∈ l, x % 9223372036854775808 < 9218868437227405312
theorem fins_take {l : List Nat} {i x : Nat} (hl : Fins (l.take i)) (h : l[i]? = some x) (hx : x % 9223372036854775808 < 9218868437227405312) : Fins (l.take (i + 1)) := by
  intro y hy
  rw [List.take_add_one, h, List.mem_append] at hy
  rcases hy with hy | hy
  · exact hl y hy
  · simp only [Option.toList_some, List.mem_singleton] at hy
    rw [hy]; exact hx
theorem gm_fin {l : List Nat} (h : Fins l) : gm l < 9218868437227405312 := by
  unfold gm
  have key : ∀ (l : List Nat) (m : Nat), m < 9218868437227405312 → Fins l → l.foldl (fun m x => max m (x % 9223372036854775808)) m < 9218868437227405312 := by
    intro l
    induction l with
    | nil => intro m hm _; exact hm
    | cons x l ih =>
      intro m hm hl
      refine ih _ ?_ fun y hy => hl y (List.mem_cons_of_mem _ hy)
      have := hl x (List.mem_cons_self ..)
      show max m (x % 9223372036854775808) < _
      omega
  exact key l 0 (by decide) h
/-- a negative word beside a positive one -/
theorem ord_neg {y p : Nat} (hy : y < 9218868437227405312) (hp : 0 < p) (hp2 : p < 9218868437227405312) : double.order (y + 9223372036854775808) p = some .lt := by
  have e : (2 : Nat) ^ 64 = 18446744073709551616 := rfl
  have h1 := v_nonneg hy
  have h2 := v_lt hp hp2
  have h3 := v_nonneg (x := 0) (by decide)
  rw [order_num (num_of (by omega) (by omega)) (num_of (x := p) (by omega) (by omega)), v_neg rfl hy]
  obtain ⟨a, ha⟩ : ∃ a, a = -vI y := ⟨_, rfl⟩
  obtain ⟨b, hb⟩ : ∃ b, b = vI p := ⟨_, rfl⟩
  rw [← ha, ← hb]
  have : a < b := by omega
  simp [compare, compareOfLessAndEq, this]
end Flt
