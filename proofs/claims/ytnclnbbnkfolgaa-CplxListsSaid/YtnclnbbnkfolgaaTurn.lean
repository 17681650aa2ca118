/- Sums and products the other way round, and with signs turned. No program is named here. -/
import Derived.Test.YtnclnbbnkfolgaaNeg
import Derived.Test.YtnclnbbnkfolgaaOrd
namespace Flt
open Ieee

theorem nearest_word (mag : Nat) (place : Int) : ∃ R, ∀ s, double.nearest s mag place = double.word s R := by
  unfold Format.nearest
  by_cases h : mag = 0
  · subst h
    exact ⟨0, fun s => by rw [if_pos rfl]⟩
  · obtain ⟨last, hl⟩ : ∃ last, last = max (place + mag.log2 - double.fractionBits) double.leastPlace := ⟨_, rfl⟩
    refine ⟨min ((last - double.leastPlace).toNat * double.binade + Toward.even.cut false (mag <<< (place - last).toNat) (last - place).toNat) double.infRung, fun s => ?_⟩
    rw [if_neg h, hl]
    rfl
theorem val_word {R : Nat} {z z' : Int} {s : Bool} (h : Num (double.word s R) z) (h' : Num (double.word (!s) R) z') : z' = -z := by
  have key : ∀ {z z' : Int}, Num (double.word false R) z → Num (double.word true R) z' → z' = -z := by
    intro z z' h h'
    have e1 : double.word false R = R := rfl
    have e2 : double.word true R = R + 9223372036854775808 := by
      show double.signWeight + R = _
      rw [weight_eq, Nat.add_comm]
    rw [e1] at h
    rw [e2] at h'
    have hl : R < 9223372036854775808 := by
      have := h'.lt
      have e : (2 : Nat) ^ 64 = 18446744073709551616 := rfl
      omega
    have hf := h.fin
    rw [Nat.mod_eq_of_lt hl] at hf
    rw [← h.val, ← h'.val, v_neg rfl hf]
  cases s
  · exact key h h'
  · have := key h' h
    omega
theorem nearest_neg {mag : Nat} {place : Int} {s : Bool} {z z' : Int} (h : Num (double.nearest s mag place) z) (h' : Num (double.nearest (!s) mag place) z') : z' = -z := by
  obtain ⟨R, hR⟩ := nearest_word mag place
  rw [hR] at h h'
  exact val_word h h'
theorem nearest_zero {place : Int} {s : Bool} {z : Int} (h : Num (double.nearest s 0 place) z) : z = 0 := by
  have e : double.nearest s 0 place = double.word s 0 := by unfold Format.nearest; rw [if_pos rfl]
  rw [e] at h
  have h0 := (read_word s 0 0 (by decide) (Or.inl rfl) (by decide)).1
  have := h.unique h0
  rw [this]
  cases s <;> rfl
theorem add_comm' {x y : Nat} {a b : Int} (hx : Num x a) (hy : Num y b) : double.add x y = double.add y x := by
  obtain ⟨s, m, i, hr, _⟩ := hx.ex
  obtain ⟨t, n, j, hr', _⟩ := hy.ex
  unfold Format.add
  rw [hr, hr']
  show some (double.nearest (if signed s m (i - min i j).toNat + signed t n (j - min i j).toNat = 0 then s && t else decide (signed s m (i - min i j).toNat + signed t n (j - min i j).toNat < 0)) (signed s m (i - min i j).toNat + signed t n (j - min i j).toNat).natAbs (min i j)) =
    some (double.nearest (if signed t n (j - min j i).toNat + signed s m (i - min j i).toNat = 0 then t && s else decide (signed t n (j - min j i).toNat + signed s m (i - min j i).toNat < 0)) (signed t n (j - min j i).toNat + signed s m (i - min j i).toNat).natAbs (min j i))
  rw [Int.min_comm j i, Int.add_comm (signed t n _), Bool.and_comm t s]
theorem mul_comm' {x y : Nat} {a b : Int} (hx : Num x a) (hy : Num y b) : double.mul x y = double.mul y x := by
  obtain ⟨s, m, i, hr, _⟩ := hx.ex
  obtain ⟨t, n, j, hr', _⟩ := hy.ex
  unfold Format.mul
  rw [hr, hr']
  show some (double.nearest (s ^^ t) (m * n) (i + j)) = some (double.nearest (t ^^ s) (n * m) (j + i))
  rw [Bool.xor_comm, Nat.mul_comm, Int.add_comm]
end Flt
namespace Go.Proofs.Ytnclnbbnkfolgaa
open Go.RowKit

theorem read_neg {x : Nat} {s : Bool} {m : Nat} {i : Int} (hx : x < 18446744073709551616) (h : Ieee.double.read x = .number s m i) : Ieee.double.read (Op.negFloat .f64 x) = .number (!s) m i := by
  have hfin : x % 9223372036854775808 < 9218868437227405312 := by
    refine Classical.byContradiction fun hc => ?_
    rcases Flt.read_notfin hc with ⟨t, ht⟩ | ⟨t, p, ht⟩ <;> rw [ht] at h <;> cases h
  obtain ⟨y, hy⟩ : ∃ y, y = Op.negFloat .f64 x := ⟨_, rfl⟩
  rw [← hy]
  rw [neg_eq x hx] at hy
  have y2 : y % 9223372036854775808 = x % 9223372036854775808 := by split at hy <;> omega
  have y3 : (y / 9223372036854775808 % 2 == 1) = !(x / 9223372036854775808 % 2 == 1) := by
    by_cases c : x < 9223372036854775808
    · rw [if_pos c] at hy
      have a1 : y / 9223372036854775808 = 1 := by omega
      have a2 : x / 9223372036854775808 = 0 := by omega
      rw [a1, a2]; rfl
    · rw [if_neg c] at hy
      have a1 : y / 9223372036854775808 = 0 := by omega
      have a2 : x / 9223372036854775808 = 1 := by omega
      rw [a1, a2]; rfl
  by_cases c : x % 9223372036854775808 < 4503599627370496
  · rw [Flt.read_small c] at h
    have hr := Flt.read_small (x := y) (by omega)
    rw [y2, y3] at hr
    cases h
    exact hr
  · rw [Flt.read_mid c hfin] at h
    have hr := Flt.read_mid (x := y) (by omega) (by omega)
    rw [y2, y3] at hr
    cases h
    exact hr
/-- the sum of two numbers whose signs are turned -/
theorem add_neg {x y r r' : Nat} {a b z z' : Int} (hx : Flt.Num x a) (hy : Flt.Num y b) (h : Ieee.double.add x y = some r) (h' : Ieee.double.add (Op.negFloat .f64 x) (Op.negFloat .f64 y) = some r') (hz : Flt.Num r z) (hz' : Flt.Num r' z') : z' = -z := by
  obtain ⟨s, m, i, hr, _⟩ := hx.ex
  obtain ⟨t, n, j, hr', _⟩ := hy.ex
  have k1 := read_neg hx.lt hr
  have k2 := read_neg hy.lt hr'
  unfold Ieee.Format.add at h h'
  rw [hr, hr'] at h
  rw [k1, k2] at h'
  obtain ⟨A, hA⟩ : ∃ A, A = Ieee.signed s m (i - min i j).toNat := ⟨_, rfl⟩
  obtain ⟨B, hB⟩ : ∃ B, B = Ieee.signed t n (j - min i j).toNat := ⟨_, rfl⟩
  have hA' : Ieee.signed (!s) m (i - min i j).toNat = -A := by rw [hA, Flt.signed_eq, Flt.signed_eq]; cases s <;> simp
  have hB' : Ieee.signed (!t) n (j - min i j).toNat = -B := by rw [hB, Flt.signed_eq, Flt.signed_eq]; cases t <;> simp
  have g1 : some (Ieee.double.nearest (if A + B = 0 then s && t else decide (A + B < 0)) (A + B).natAbs (min i j)) = some r := by rw [hA, hB]; exact h
  have g2 : some (Ieee.double.nearest (if -A + -B = 0 then !s && !t else decide (-A + -B < 0)) (-A + -B).natAbs (min i j)) = some r' := by rw [← hA', ← hB']; exact h'
  cases g1
  cases g2
  have eN : (-A + -B).natAbs = (A + B).natAbs := by omega
  rw [eN] at hz'
  by_cases c : A + B = 0
  · have c2 : (A + B).natAbs = 0 := by omega
    rw [c2] at hz hz'
    rw [Flt.nearest_zero hz, Flt.nearest_zero hz']; rfl
  · rw [if_neg c] at hz
    rw [if_neg (by omega : ¬ -A + -B = 0)] at hz'
    have e : decide (-A + -B < 0) = !decide (A + B < 0) := by
      by_cases d : A + B < 0
      · rw [decide_eq_true d, decide_eq_false (by omega)]; rfl
      · rw [decide_eq_false d, decide_eq_true (by omega)]; rfl
    rw [e] at hz'
    exact Flt.nearest_neg hz hz'
/-- the product of two numbers, the first one's sign turned -/
theorem mul_neg {x y r r' : Nat} {a b z z' : Int} (hx : Flt.Num x a) (hy : Flt.Num y b) (h : Ieee.double.mul x y = some r) (h' : Ieee.double.mul (Op.negFloat .f64 x) y = some r') (hz : Flt.Num r z) (hz' : Flt.Num r' z') : z' = -z := by
  obtain ⟨s, m, i, hr, _⟩ := hx.ex
  obtain ⟨t, n, j, hr', _⟩ := hy.ex
  have k1 := read_neg hx.lt hr
  unfold Ieee.Format.mul at h h'
  rw [hr, hr'] at h
  rw [k1, hr'] at h'
  have g1 : some (Ieee.double.nearest (s ^^ t) (m * n) (i + j)) = some r := h
  have g2 : some (Ieee.double.nearest (!s ^^ t) (m * n) (i + j)) = some r' := h'
  cases g1
  cases g2
  have e : (!s ^^ t) = !(s ^^ t) := by cases s <;> cases t <;> rfl
  rw [e] at hz'
  exact Flt.nearest_neg hz hz'
/-- two words of one number are equal floats -/
theorem ord_same {x y : Nat} {a : Int} (hx : Flt.Num x a) (hy : Flt.Num y a) : FloatKind.f64.format.order x y = some Ordering.eq := (Flt.order_num hx hy).trans (by simp [compare, compareOfLessAndEq])
end Go.Proofs.Ytnclnbbnkfolgaa
