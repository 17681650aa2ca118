/- Sums and products of any words, the other way round and with signs turned (layer 6). No program is named here. -/
import Derived.Test.YtnclnbbnkfolgaaNan6
import Derived.Test.YtnclnbbnkfolgaaTurn
namespace Go.Proofs.Ytnclnbbnkfolgaa
open Go.RowKit Ieee

theorem sum_comm6 (a b : Datum) : a.sum b = b.sum a := by
  cases a with
  | nan s p => cases b <;> rfl
  | infinity s =>
    cases b with
    | nan _ _ => rfl
    | number _ _ _ => rfl
    | infinity t =>
      show (if s = t then some (Datum.infinity s) else none) = (if t = s then some (Datum.infinity t) else none)
      by_cases h : s = t
      · subst h; rfl
      · rw [if_neg h, if_neg (fun e => h e.symm)]
  | number s m i =>
    cases b with
    | nan _ _ => rfl
    | infinity _ => rfl
    | number t n j =>
      show some (Datum.number (if signed s m (i - min i j).toNat + signed t n (j - min i j).toNat = 0 then s && t else decide (signed s m (i - min i j).toNat + signed t n (j - min i j).toNat < 0)) (signed s m (i - min i j).toNat + signed t n (j - min i j).toNat).natAbs (min i j)) =
        some (Datum.number (if signed t n (j - min j i).toNat + signed s m (i - min j i).toNat = 0 then t && s else decide (signed t n (j - min j i).toNat + signed s m (i - min j i).toNat < 0)) (signed t n (j - min j i).toNat + signed s m (i - min j i).toNat).natAbs (min j i))
      rw [Int.min_comm j i, Int.add_comm (signed t n _), Bool.and_comm t s]
theorem prod_comm6 (a b : Datum) : a.product b = b.product a := by
  cases a with
  | nan s p => cases b <;> rfl
  | infinity s =>
    cases b with
    | nan _ _ => rfl
    | number _ _ _ => rfl
    | infinity t =>
      show some (Datum.infinity (s ^^ t)) = some (Datum.infinity (t ^^ s))
      rw [Bool.xor_comm]
  | number s m i =>
    cases b with
    | nan _ _ => rfl
    | infinity _ => rfl
    | number t n j =>
      show some (Datum.number (s ^^ t) (m * n) (i + j)) = some (Datum.number (t ^^ s) (n * m) (j + i))
      rw [Bool.xor_comm, Nat.mul_comm, Int.add_comm]
theorem FR.comm_add {x y r : Nat} (h : FR .add x y r) : FR .add y x r := by
  have e : floatBits .add .f64 y x = floatBits .add .f64 x y := by
    show double.add y x = double.add x y
    unfold Format.add; rw [sum_comm6]
  unfold FR; rw [e]; exact h
theorem FR.comm_mul {x y r : Nat} (h : FR .mul x y r) : FR .mul y x r := by
  have e : floatBits .mul .f64 y x = floatBits .mul .f64 x y := by
    show double.mul y x = double.mul x y
    unfold Format.mul; rw [prod_comm6]
  unfold FR; rw [e]; exact h
theorem read_opp {x : Nat} (hx : x < 18446744073709551616) : double.read (Op.negFloat .f64 x) = (double.read x).opposite := by
  obtain ⟨y, hy⟩ : ∃ y, y = Op.negFloat .f64 x := ⟨_, rfl⟩
  rw [← hy]
  rw [neg_eq x hx] at hy
  have y2 : y % 9223372036854775808 = x % 9223372036854775808 := by split at hy <;> omega
  have y3 : (y / 9223372036854775808 % 2 == 1) = !(x / 9223372036854775808 % 2 == 1) := by
    by_cases c : x < 9223372036854775808
    · rw [if_pos c] at hy
      have a1 : y / 9223372036854775808 = 1 := by omega
      have a2 : x / 9223372036854775808 = 0 := by omega
      rw [a1, a2]; rfl
    · rw [if_neg c] at hy
      have a1 : y / 9223372036854775808 = 0 := by omega
      have a2 : x / 9223372036854775808 = 1 := by omega
      rw [a1, a2]; rfl
  unfold Format.read
  rw [Flt.weight_eq, Flt.binade_eq, Flt.inf_eq, y2, y3]
  simp only []
  split
  · rfl
  · split
    · rfl
    · split <;> rfl
theorem word_opp {R : Nat} (h : R < 9223372036854775808) (s : Bool) : Op.negFloat .f64 (double.word s R) = double.word (!s) R ∧ double.word s R < 18446744073709551616 := by
  have e1 : double.word false R = R := rfl
  have e2 : double.word true R = 9223372036854775808 + R := by
    show double.signWeight + R = _
    rw [Flt.weight_eq]
  cases s
  · rw [e1, Bool.not_false, e2]
    refine ⟨?_, by omega⟩
    rw [neg_eq _ (by omega), if_pos h]; omega
  · rw [e2, Bool.not_true, e1]
    refine ⟨?_, by omega⟩
    rw [neg_eq _ (by omega), if_neg (by omega)]; omega
theorem nearest_rung (mag : Nat) (place : Int) : ∃ R, R < 9223372036854775808 ∧ ∀ s, double.nearest s mag place = double.word s R := by
  unfold Format.nearest
  by_cases h : mag = 0
  · subst h
    exact ⟨0, by decide, fun s => by rw [if_pos rfl]⟩
  · obtain ⟨last, hl⟩ : ∃ last, last = max (place + mag.log2 - double.fractionBits) double.leastPlace := ⟨_, rfl⟩
    refine ⟨min ((last - double.leastPlace).toNat * double.binade + Toward.even.cut false (mag <<< (place - last).toNat) (last - place).toNat) double.infRung, ?_, fun s => ?_⟩
    · have := Flt.inf_eq
      omega
    · rw [if_neg h, hl]
      rfl
theorem write_opp (d : Datum) : Op.negFloat .f64 (double.write d) = double.write d.opposite ∧ double.write d < 18446744073709551616 := by
  cases d with
  | number s m i =>
    obtain ⟨R, hR, h⟩ := nearest_rung m i
    show Op.negFloat .f64 (double.nearest s m i) = double.nearest (!s) m i ∧ double.nearest s m i < _
    rw [h s, h (!s)]
    exact word_opp hR s
  | infinity s => exact word_opp (by rw [Flt.inf_eq]; decide) s
  | nan s f =>
    refine word_opp ?_ s
    have := Nat.mod_lt f (show 0 < double.binade by decide)
    have h1 := Flt.inf_eq
    have h2 := Flt.binade_eq
    omega
theorem prod_opp_r (a b : Datum) : a.product b.opposite = (a.product b).map Datum.opposite := by
  cases a with
  | nan s p => cases b <;> rfl
  | infinity s =>
    cases b with
    | nan _ _ => rfl
    | number t n j =>
      show (if n = 0 then none else some (Datum.infinity (s ^^ !t))) = (if n = 0 then none else some (Datum.infinity (s ^^ t))).map Datum.opposite
      by_cases h : n = 0
      · rw [if_pos h, if_pos h]; rfl
      · rw [if_neg h, if_neg h]; cases s <;> cases t <;> rfl
    | infinity t => cases s <;> cases t <;> rfl
  | number s m i =>
    cases b with
    | nan _ _ => rfl
    | number t n j => cases s <;> cases t <;> rfl
    | infinity t =>
      show (if m = 0 then none else some (Datum.infinity (!t ^^ s))) = (if m = 0 then none else some (Datum.infinity (t ^^ s))).map Datum.opposite
      by_cases h : m = 0
      · rw [if_pos h, if_pos h]; rfl
      · rw [if_neg h, if_neg h]; cases s <;> cases t <;> rfl
theorem prod_opp_l (a b : Datum) : a.opposite.product b = (a.product b).map Datum.opposite := by
  rw [prod_comm6, prod_opp_r, prod_comm6]
theorem opp_opp (d : Datum) : d.opposite.opposite = d := by cases d <;> simp [Datum.opposite]
end Go.Proofs.Ytnclnbbnkfolgaa
