/- Signs turned: what results become (layer 6). No program is named here. -/
import Derived.Test.YtnclnbbnkfolgaaSign6
namespace Go.Proofs.Ytnclnbbnkfolgaa
open Go.RowKit Ieee

theorem signed_opp (s : Bool) (m u : Nat) : signed (!s) m u = -signed s m u := by
  cases s
  · show -((m <<< u : Nat) : Int) = -((m <<< u : Nat) : Int); rfl
  · show ((m <<< u : Nat) : Int) = -(-((m <<< u : Nat) : Int)); omega
theorem sum_opp (a b : Datum) : a.opposite.sum b.opposite = (a.sum b).map Datum.opposite ∨ ∃ s t i, a.sum b = some (.number s 0 i) ∧ a.opposite.sum b.opposite = some (.number t 0 i) := by
  cases a with
  | nan s p => cases b <;> exact Or.inl rfl
  | infinity s =>
    cases b with
    | nan _ _ => exact Or.inl rfl
    | number _ _ _ => exact Or.inl rfl
    | infinity t => cases s <;> cases t <;> exact Or.inl rfl
  | number s m i =>
    cases b with
    | nan _ _ => exact Or.inl rfl
    | infinity _ => exact Or.inl rfl
    | number t n j =>
      obtain ⟨T, hT⟩ : ∃ T, T = signed s m (i - min i j).toNat + signed t n (j - min i j).toNat := ⟨_, rfl⟩
      have e1 : (Datum.number s m i).sum (.number t n j) = some (.number (if T = 0 then s && t else decide (T < 0)) T.natAbs (min i j)) := by rw [hT]; rfl
      have e2 : (Datum.number s m i).opposite.sum (Datum.number t n j).opposite = some (.number (if -T = 0 then !s && !t else decide (-T < 0)) (-T).natAbs (min i j)) := by
        have : -T = signed (!s) m (i - min i j).toNat + signed (!t) n (j - min i j).toNat := by rw [signed_opp, signed_opp]; omega
        rw [this]; rfl
      rw [e1, e2]
      by_cases h : T = 0
      · refine Or.inr ⟨s && t, !s && !t, min i j, ?_, ?_⟩
        · rw [if_pos h, h]; rfl
        · rw [if_pos (by omega), h]; rfl
      · refine Or.inl ?_
        rw [if_neg h, if_neg (by omega), Int.natAbs_neg]
        have : decide (-T < 0) = !decide (T < 0) := by
          by_cases c : T < 0
          · have c' : ¬ -T < 0 := by omega
            rw [decide_eq_false c', decide_eq_true c]; rfl
          · have c' : -T < 0 := by omega
            rw [decide_eq_true c', decide_eq_false c]; rfl
        rw [this]; rfl
/-- equal as floats, or both no number -/
def Eq6 (x y : Nat) : Prop := double.order x y = some .eq ∨ (NanW x ∧ NanW y)
theorem Sm.eq6 {x y : Nat} (h : Sm x y) : Eq6 x y := by
  rcases h with rfl | h
  · by_cases c : NanW x
    · exact Or.inr ⟨c, c⟩
    · exact Or.inl (ord_refl c)
  · exact Or.inr h
theorem nan_opp {d : Datum} (h : ∃ s p, d = .nan s p) : ∃ s p, d.opposite = .nan s p := by
  obtain ⟨s, p, rfl⟩ := h; exact ⟨_, _, rfl⟩
/-- no number, by its low bits -/
theorem nan_low {x : Nat} : NanW x ↔ 9218868437227405312 < x % 9223372036854775808 := by
  constructor
  · rintro ⟨s, p, h⟩
    refine Classical.byContradiction fun hc => ?_
    unfold Format.read at h
    rw [Flt.weight_eq, Flt.binade_eq, Flt.inf_eq] at h
    by_cases c1 : x % 9223372036854775808 < 4503599627370496
    · simp only [c1, if_true] at h; cases h
    · by_cases c2 : x % 9223372036854775808 < 9218868437227405312
      · simp only [c1, c2, if_true, if_false] at h; cases h
      · have c3 : x % 9223372036854775808 = 9218868437227405312 := by omega
        simp only [c3, if_true] at h; cases h
  · intro h
    unfold NanW Format.read
    rw [Flt.weight_eq, Flt.binade_eq, Flt.inf_eq]
    have c1 : ¬ x % 9223372036854775808 < 4503599627370496 := by omega
    have c2 : ¬ x % 9223372036854775808 < 9218868437227405312 := by omega
    have c3 : ¬ x % 9223372036854775808 = 9218868437227405312 := by omega
    simp only [c1, c2, c3, if_false]
    exact ⟨_, _, rfl⟩
theorem neg_low (x : Nat) : Op.negFloat .f64 x % 9223372036854775808 = x % 9223372036854775808 := by
  show (x ^^^ 9223372036854775808) % 2 ^ 63 = x % 2 ^ 63
  rw [Nat.xor_mod_two_pow]
  show x % 2 ^ 63 ^^^ 0 = _
  rw [Nat.xor_zero]
theorem neg_nan6 {x : Nat} (h : NanW x) : NanW (Op.negFloat .f64 x) := by
  rw [nan_low] at *
  rw [neg_low]; exact h
theorem FR.mul_nr {x y r r' : Nat} (hy : y < 18446744073709551616) (h : FR .mul x y r) (h' : FR .mul x (Op.negFloat .f64 y) r') : Sm r' (Op.negFloat .f64 r) := by
  have e : floatBits .mul .f64 x (Op.negFloat .f64 y) = (floatBits .mul .f64 x y).map (Op.negFloat .f64) := by
    show double.mul x (Op.negFloat .f64 y) = (double.mul x y).map _
    unfold Format.mul
    rw [read_opp hy, prod_opp_r]
    cases (double.read x).product (double.read y) with
    | none => rfl
    | some d => exact congrArg some (write_opp d).1.symm
  rcases h with h | ⟨h, k⟩
  · rcases h' with h' | ⟨h', _⟩
    · rw [e, h] at h'; exact Or.inl (Option.some.inj h').symm
    · rw [e, h] at h'; cases h'
  · rcases h' with h' | ⟨_, k'⟩
    · rw [e, h] at h'; cases h'
    · exact Or.inr ⟨k', neg_nan6 k⟩
theorem FR.mul_nl {x y r r' : Nat} (hx : x < 18446744073709551616) (h : FR .mul x y r) (h' : FR .mul (Op.negFloat .f64 x) y r') : Sm r' (Op.negFloat .f64 r) := h.comm_mul.mul_nr hx h'.comm_mul
theorem FR.mul_nn {x y r r' : Nat} (hx : x < 18446744073709551616) (hy : y < 18446744073709551616) (h : FR .mul x y r) (h' : FR .mul (Op.negFloat .f64 x) (Op.negFloat .f64 y) r') : Sm r' r := by
  have e : floatBits .mul .f64 (Op.negFloat .f64 x) (Op.negFloat .f64 y) = floatBits .mul .f64 x y := by
    show double.mul (Op.negFloat .f64 x) (Op.negFloat .f64 y) = double.mul x y
    unfold Format.mul
    rw [read_opp hy, read_opp hx, prod_opp_r, prod_opp_l]
    cases (double.read x).product (double.read y) with
    | none => rfl
    | some d => show some (double.write d.opposite.opposite) = _; rw [opp_opp]; rfl
  have h'' : FR .mul x y r' := by unfold FR at *; rw [e] at h'; exact h'
  exact h''.sm arM h (Sm.refl _) (Sm.refl _)
theorem nearest_zero6 (s : Bool) (i : Int) : double.write (.number s 0 i) = double.word s 0 := by
  show double.nearest s 0 i = _
  unfold Format.nearest; rw [if_pos rfl]
theorem zeros_eq (s t : Bool) : double.order (double.word s 0) (double.word t 0) = some .eq := by
  cases s <;> cases t <;> decide +kernel
/-- of words below 2^64, or no numbers -/
def Wn (x : Nat) : Prop := x < 18446744073709551616 ∨ NanW x
theorem FR.wn {op : BinOp} (ho : Arith op) {x y r : Nat} (h : FR op x y r) : Wn r := by
  rcases h with h | ⟨_, h⟩
  · left
    have key : ∀ (o : Option Datum), o.map double.write = some r → r < 18446744073709551616 := by
      intro o ho
      cases o with
      | none => cases ho
      | some d => cases ho; exact (write_opp d).2
    rcases ho with rfl | rfl | rfl
    · exact key _ h
    · exact key _ h
    · exact key _ h
  · exact Or.inr h
theorem FR.add_nn {x y r r' : Nat} (hx : Wn x) (hy : Wn y) (h : FR .add x y r) (h' : FR .add (Op.negFloat .f64 x) (Op.negFloat .f64 y) r') : Eq6 r' (Op.negFloat .f64 r) := by
  rcases hx with hx | hx
  · rcases hy with hy | hy
    · have e : floatBits .add .f64 (Op.negFloat .f64 x) (Op.negFloat .f64 y) = (((double.read x).opposite.sum (double.read y).opposite)).map double.write := by
        show double.add (Op.negFloat .f64 x) (Op.negFloat .f64 y) = _
        unfold Format.add
        rw [read_opp hx, read_opp hy]
      have e0 : floatBits .add .f64 x y = ((double.read x).sum (double.read y)).map double.write := rfl
      unfold FR at h h'
      rw [e] at h'
      rw [e0] at h
      rcases sum_opp (double.read x) (double.read y) with k | ⟨s, t, i, k1, k2⟩
      · rw [k] at h'
        refine Sm.eq6 ?_
        cases ho : (double.read x).sum (double.read y) with
        | none =>
          rw [ho] at h h'
          rcases h with h | ⟨_, h⟩
          · cases h
          · rcases h' with h' | ⟨_, h'⟩
            · cases h'
            · exact Or.inr ⟨h', neg_nan6 h⟩
        | some d =>
          rw [ho] at h h'
          rcases h with h | ⟨h, _⟩
          · rcases h' with h' | ⟨h', _⟩
            · left
              have a : double.write d = r := Option.some.inj h
              have b : double.write d.opposite = r' := Option.some.inj h'
              rw [← a, ← b, (write_opp d).1]
            · cases h'
          · cases h
      · rw [k1] at h
        rw [k2] at h'
        rcases h with h | ⟨h, _⟩
        · rcases h' with h' | ⟨h', _⟩
          · left
            have a : double.write (.number s 0 i) = r := Option.some.inj h
            have b : double.write (.number t 0 i) = r' := Option.some.inj h'
            rw [← a, ← b, (write_opp _).1]
            show double.order (double.write (.number t 0 i)) (double.write (.number (!s) 0 i)) = _
            rw [nearest_zero6, nearest_zero6]
            exact zeros_eq t (!s)
          · cases h'
        · cases h
    · exact Or.inr ⟨h'.nan (bits_nan_r arA (neg_nan6 hy) _), neg_nan6 (h.nan (bits_nan_r arA hy _))⟩
  · exact Or.inr ⟨h'.nan (bits_nan_l arA (neg_nan6 hx) _), neg_nan6 (h.nan (bits_nan_l arA hx _))⟩
end Go.Proofs.Ytnclnbbnkfolgaa
