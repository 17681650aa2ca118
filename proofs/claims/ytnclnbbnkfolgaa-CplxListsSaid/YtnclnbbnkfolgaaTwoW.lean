/- Powers of two as words, and their products: by the kernel. No program is named here. -/
import Derived.Test.YtnclnbbnkfolgaaIeee3
namespace Flt
open Ieee

/-- the word of 2^n (b false) or of 2^-n (b true): an infinity, 0 where it goes over or under -/
def tw (b : Bool) (n : Nat) : Nat :=
  match b with
  | true => if n ≤ 1022 then (1023 - n) * 4503599627370496 else if n ≤ 1074 then 2 ^ (1074 - n) else 0
  | false => if n ≤ 1023 then (1023 + n) * 4503599627370496 else 9218868437227405312
/-- the product of the powers of n without its greatest bit and of that bit -/
def twChk (b : Bool) (i low : Nat) : Bool := match double.mul (tw b low) (tw b (2 ^ i)) with
  | some r => Nat.beq r (tw b (low + 2 ^ i))
  | none => false
def twAll (b : Bool) (i : Nat) : Nat → Bool
  | 0 => true
  | n + 1 => (Nat.blt 1074 (n + 2 ^ i) || twChk b i n) && twAll b i n
theorem twAll_spec {b : Bool} {i : Nat} : ∀ {n : Nat}, twAll b i n = true → ∀ low, low < n → low + 2 ^ i ≤ 1074 → twChk b i low = true
  | 0, _, low, hl, _ => absurd hl (Nat.not_lt_zero _)
  | n + 1, h, low, hl, hle => by
    unfold twAll at h
    rw [Bool.and_eq_true] at h
    by_cases c : low = n
    · subst c
      rcases (Bool.or_eq_true _ _).mp h.1 with h1 | h1
      · exfalso
        have : 1074 < low + 2 ^ i := Nat.le_of_ble_eq_true h1
        omega
      · exact h1
    · exact twAll_spec h.2 low (by omega) hle
def twRows (b : Bool) : Nat → Bool
  | 0 => true
  | i + 1 => twAll b i (2 ^ i) && twRows b i
theorem twRows_spec {b : Bool} : ∀ {n : Nat}, twRows b n = true → ∀ i, i < n → twAll b i (2 ^ i) = true
  | 0, _, i, hi => absurd hi (Nat.not_lt_zero _)
  | n + 1, h, i, hi => by
    unfold twRows at h
    rw [Bool.and_eq_true] at h
    by_cases c : i = n
    · subst c; exact h.1
    · exact twRows_spec h.2 i (by omega)
theorem rows_t : twRows true 11 = true := by decide +kernel
theorem rows_f : twRows false 11 = true := by decide +kernel
theorem tw_mul (b : Bool) {i low : Nat} (hi : i < 11) (hl : low < 2 ^ i) (h : low + 2 ^ i ≤ 1074) : double.mul (tw b low) (tw b (2 ^ i)) = some (tw b (low + 2 ^ i)) := by
  have h1 : twChk b i low = true := by
    cases b
    · exact twAll_spec (twRows_spec rows_f i hi) low hl h
    · exact twAll_spec (twRows_spec rows_t i hi) low hl h
  unfold twChk at h1
  split at h1
  · rename_i r hr
    rw [hr, Nat.eq_of_beq_eq_true h1]
  · cases h1
theorem tw_sq (b : Bool) {i : Nat} (hi : i < 11) : double.mul (tw b (2 ^ i)) (tw b (2 ^ i)) = some (tw b (2 ^ (i + 1))) := by
  have h : ∀ b : Bool, ∀ i : Fin 11, double.mul (tw b (2 ^ i.val)) (tw b (2 ^ i.val)) = some (tw b (2 ^ (i.val + 1))) := by decide +kernel
  exact h b ⟨i, hi⟩

/-- the word of 2^k -/
def twK (k : Int) : Nat := tw (decide (k < 0)) k.natAbs
end Flt
