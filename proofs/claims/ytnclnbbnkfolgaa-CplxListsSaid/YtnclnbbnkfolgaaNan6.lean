/- Float operations on any words, also those that are no number (layer 6): a relation between operands and result. -/
import Derived.Test.YtnclnbbnkfolgaaOrd
import Derived.Test.YtnclnbbnkfolgaaNeg
import Derived.Laws.NewFold
namespace Go.Proofs.Ytnclnbbnkfolgaa
open Go.RowKit

/-- no number -/
def NanW (x : Nat) : Prop := ∃ s p, Ieee.double.read x = .nan s p
/-- the same float, or both no number -/
def Sm (x y : Nat) : Prop := x = y ∨ (NanW x ∧ NanW y)
theorem Sm.refl (x : Nat) : Sm x x := Or.inl rfl
theorem Sm.symm {x y : Nat} (h : Sm x y) : Sm y x := h.elim (fun e => Or.inl e.symm) (fun ⟨a, b⟩ => Or.inr ⟨b, a⟩)
theorem Sm.trans {x y z : Nat} (h : Sm x y) (k : Sm y z) : Sm x z := by
  rcases h with rfl | ⟨a, b⟩
  · exact k
  · rcases k with rfl | ⟨_, d⟩
    · exact Or.inr ⟨a, b⟩
    · exact Or.inr ⟨a, d⟩
def Arith (op : BinOp) : Prop := op = .add ∨ op = .sub ∨ op = .mul
theorem arM : Arith .mul := Or.inr (Or.inr rfl)
theorem arS : Arith .sub := Or.inr (Or.inl rfl)
theorem arA : Arith .add := Or.inl rfl
/-- what an operation may answer -/
def FR (op : BinOp) (x y r : Nat) : Prop := floatBits op .f64 x y = some r ∨ (floatBits op .f64 x y = none ∧ NanW r)
theorem sum_nan (s : Bool) (p : Nat) (d : Ieee.Datum) : (Ieee.Datum.nan s p).sum d = none := by cases d <;> rfl
theorem nan_sum (s : Bool) (p : Nat) (d : Ieee.Datum) : d.sum (Ieee.Datum.nan s p) = none := by cases d <;> rfl
theorem prod_nan (s : Bool) (p : Nat) (d : Ieee.Datum) : (Ieee.Datum.nan s p).product d = none := by cases d <;> rfl
theorem nan_prod (s : Bool) (p : Nat) (d : Ieee.Datum) : d.product (Ieee.Datum.nan s p) = none := by cases d <;> rfl
theorem bits_nan_l {op : BinOp} (ho : Arith op) {x : Nat} (h : NanW x) (y : Nat) : floatBits op .f64 x y = none := by
  obtain ⟨s, p, h⟩ := h
  rcases ho with rfl | rfl | rfl
  · show Ieee.double.add x y = none
    unfold Ieee.Format.add; rw [h, sum_nan]; rfl
  · show Ieee.double.sub x y = none
    unfold Ieee.Format.sub; rw [h, sum_nan]; rfl
  · show Ieee.double.mul x y = none
    unfold Ieee.Format.mul; rw [h, prod_nan]; rfl
theorem opposite_nan (s : Bool) (p : Nat) : ∃ t q, (Ieee.Datum.nan s p).opposite = .nan t q := ⟨_, _, rfl⟩
theorem bits_nan_r {op : BinOp} (ho : Arith op) {y : Nat} (h : NanW y) (x : Nat) : floatBits op .f64 x y = none := by
  obtain ⟨s, p, h⟩ := h
  rcases ho with rfl | rfl | rfl
  · show Ieee.double.add x y = none
    unfold Ieee.Format.add; rw [h, nan_sum]; rfl
  · show Ieee.double.sub x y = none
    obtain ⟨t, q, e⟩ := opposite_nan s p
    unfold Ieee.Format.sub; rw [h, e, nan_sum]; rfl
  · show Ieee.double.mul x y = none
    unfold Ieee.Format.mul; rw [h, nan_prod]; rfl
theorem FR.nan {op : BinOp} {x y r : Nat} (h : FR op x y r) (hn : floatBits op .f64 x y = none) : NanW r := by
  rcases h with h | ⟨_, h⟩
  · rw [hn] at h; cases h
  · exact h
/-- like operands, like results -/
theorem FR.sm {op : BinOp} (ho : Arith op) {x y r x' y' r' : Nat} (h : FR op x y r) (h' : FR op x' y' r') (hx : Sm x x') (hy : Sm y y') : Sm r r' := by
  rcases hx with rfl | ⟨a, b⟩
  · rcases hy with rfl | ⟨a, b⟩
    · rcases h with h | ⟨h, k⟩
      · rcases h' with h' | ⟨h', _⟩
        · rw [h] at h'; exact Or.inl (Option.some.inj h')
        · rw [h] at h'; cases h'
      · exact Or.inr ⟨k, h'.nan h⟩
    · exact Or.inr ⟨h.nan (bits_nan_r ho a _), h'.nan (bits_nan_r ho b _)⟩
  · exact Or.inr ⟨h.nan (bits_nan_l ho a _), h'.nan (bits_nan_l ho b _)⟩
/-- the value and the world behind an operation -/
def fval (op : BinOp) (x y : Nat) (w : World) : Nat := match floatBits op .f64 x y with
  | some r => r
  | none => (Question.nanBits .f64 x y).cut (w.tape w.drawn (.nanBits .f64 x y))
def fwor (op : BinOp) (x y : Nat) (w : World) : World := match floatBits op .f64 x y with
  | some _ => w
  | none => w.drew
theorem cut_nan (x y t : Nat) : NanW ((Question.nanBits .f64 x y).cut t) := by
  obtain ⟨s, hs⟩ : ∃ s, s = (Question.nanBits .f64 x y).cut t := ⟨_, rfl⟩
  have h : s = (t % 2) * 9223372036854775808 + 9218868437227405312 + 1 + (t / 2) % 4503599627370495 := hs
  rw [← hs]
  have u1 : t / 2 % 4503599627370495 < 4503599627370495 := Nat.mod_lt _ (by decide)
  have u2 : t % 2 = 0 ∨ t % 2 = 1 := by omega
  generalize t / 2 % 4503599627370495 = u at *
  generalize t % 2 = b at *
  clear hs
  have h1 : s % 9223372036854775808 > 9218868437227405312 := by omega
  have h2 : ¬ s % 9223372036854775808 < 9218868437227405312 := by omega
  rcases Flt.read_notfin h2 with ⟨t', ht⟩ | ⟨t', p, ht⟩
  · exfalso
    unfold Ieee.Format.read at ht
    rw [Flt.weight_eq, Flt.binade_eq, Flt.inf_eq] at ht
    have e1 : ¬ s % 9223372036854775808 < 4503599627370496 := by omega
    have e3 : ¬ s % 9223372036854775808 = 9218868437227405312 := by omega
    simp only [e1, h2, e3, if_false] at ht
    cases ht
  · exact ⟨t', p, ht⟩
theorem fval_fr {op : BinOp} (x y : Nat) (w : World) : FR op x y (fval op x y w) := by
  unfold FR fval
  cases h : floatBits op .f64 x y with
  | some r => exact Or.inl rfl
  | none => exact Or.inr ⟨rfl, cut_nan x y _⟩
theorem fwor_bel (op : BinOp) (x y : Nat) (w : World) : Bel w (fwor op x y w) := by
  unfold fwor
  split
  · exact Bel.refl _
  · exact (Bel.refl _).drew
theorem run_fany {P : Program} {op : BinOp} (ho : Arith op) (t : TypeId) (x y : Nat) (w : World) : (binOp op t (.float .f64 x) (.float .f64 y)).run P w = .ok (.float .f64 (fval op x y w)) (fwor op x y w) := by
  unfold fval fwor
  cases h : floatBits op .f64 x y with
  | some r => exact run_float_arith w op t .f64 x y r h
  | none =>
    have hf : (Question.nanBits .f64 x y).forced = false := rfl
    unfold floatBits at h
    rcases ho with rfl | rfl | rfl <;> simp only at h <;> simp [binOp, Op.floatArith, h, hf]
/-- orders of words that are no numbers -/
theorem ord_nan_l {x : Nat} (h : NanW x) (y : Nat) : FloatKind.f64.format.order x y = none := by
  obtain ⟨s, p, h⟩ := h
  show Ieee.double.order x y = none
  unfold Ieee.Format.order
  rw [h]
  cases Ieee.double.read y <;> rfl
theorem ord_nan_r {y : Nat} (h : NanW y) (x : Nat) : FloatKind.f64.format.order x y = none := by
  obtain ⟨s, p, h⟩ := h
  show Ieee.double.order x y = none
  unfold Ieee.Format.order
  rw [h]
  cases Ieee.double.read x <;> rfl
theorem ord_refl {x : Nat} (h : ¬ NanW x) : FloatKind.f64.format.order x x = some .eq := by
  show Ieee.double.order x x = some .eq
  unfold Ieee.Format.order
  cases hr : Ieee.double.read x with
  | nan s p => exact absurd ⟨s, p, hr⟩ h
  | infinity s => cases s <;> rfl
  | number s m i => simp [Ieee.Datum.order, compare, compareOfLessAndEq]
/-- the sign turned -/
theorem neg_nan {x : Nat} (hx : x < 18446744073709551616) (h : NanW x) : NanW (Op.negFloat .f64 x) := by
  obtain ⟨s, p, h⟩ := h
  have hf : ¬ x % 9223372036854775808 < 9218868437227405312 := fun hc => by
    by_cases k : x % 9223372036854775808 < 4503599627370496
    · rw [Flt.read_small k] at h; cases h
    · rw [Flt.read_mid k hc] at h; cases h
  have hi : x % 9223372036854775808 ≠ 9218868437227405312 := fun e => by
    unfold Ieee.Format.read at h
    rw [Flt.weight_eq, Flt.binade_eq, Flt.inf_eq] at h
    simp only [e, if_true] at h
    cases h
  rw [neg_eq x hx]
  obtain ⟨y, hy⟩ : ∃ y, y = (if x < 9223372036854775808 then x + 9223372036854775808 else x - 9223372036854775808) := ⟨_, rfl⟩
  rw [← hy]
  have e : y % 9223372036854775808 = x % 9223372036854775808 := by rw [hy]; split <;> omega
  have h2 : ¬ y % 9223372036854775808 < 9218868437227405312 := by omega
  rcases Flt.read_notfin h2 with ⟨t', ht⟩ | ⟨t', p, ht⟩
  · exfalso
    unfold Ieee.Format.read at ht
    rw [Flt.weight_eq, Flt.binade_eq, Flt.inf_eq] at ht
    have e1 : ¬ y % 9223372036854775808 < 4503599627370496 := by omega
    have e3 : ¬ y % 9223372036854775808 = 9218868437227405312 := by omega
    simp only [e1, h2, e3, if_false] at ht
    cases ht
  · exact ⟨t', p, ht⟩
end Go.Proofs.Ytnclnbbnkfolgaa
