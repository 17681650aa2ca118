/- Merged texts: Abs, TopF, Tame, Times4, SizeP, Size, Said4, Fin4, EqDD, LDDMakes0. -/
import Derived.Test.YtfpneojhhkfhpaaM2
import Derived.Test.YtfpneojhhkfhpaaM1
import Derived.Test.YtfpneojhhkfhpaaM3
import Derived.Laws.StructEq
import Derived.Deep.RegionHeld3
/- math.Abs: a float's word without its sign; orders of such words with finite ones. -/
namespace Flt
open Ieee

theorem read_inf {y : Nat} (h : y = 9218868437227405312) : double.read y = .infinity false := by subst h; decide +kernel
theorem read_nan {y : Nat} (h : 9218868437227405312 < y) (h2 : y < 9223372036854775808) : ∃ s p, double.read y = .nan s p := by
  unfold Format.read
  rw [weight_eq, binade_eq, inf_eq]
  have e : y % 9223372036854775808 = y := Nat.mod_eq_of_lt h2
  have h1 : ¬ y < 4503599627370496 := by omega
  have h3 : ¬ y < 9218868437227405312 := by omega
  have h4 : ¬ y = 9218868437227405312 := by omega
  simp only [e, h1, h3, h4, if_false]
  exact ⟨_, _, rfl⟩
theorem read_fin {c : Nat} (hc : c < 9218868437227405312) : ∃ s m i, double.read c = .number s m i := by
  by_cases k : c % 9223372036854775808 < 4503599627370496
  · exact ⟨_, _, _, read_small k⟩
  · exact ⟨_, _, _, read_mid k (by omega)⟩
/-- a word without a sign beside a finite one -/
theorem ord4 (y c : Nat) (hy : y < 9223372036854775808) (hc : c < 9218868437227405312) :
    (double.order y c = some .lt ∧ y < c) ∨ (double.order y c = some .eq ∧ y = c) ∨ (double.order y c = some .gt ∧ c < y ∧ y ≤ 9218868437227405312) ∨ (double.order y c = none ∧ 9218868437227405312 < y) := by
  by_cases h : y < 9218868437227405312
  · rw [order_words h hc]
    rcases Nat.lt_trichotomy y c with k | k | k
    · exact Or.inl ⟨congrArg some (cmp_lt k), k⟩
    · exact Or.inr (Or.inl ⟨by rw [k]; exact congrArg some (cmp_eq c), k⟩)
    · exact Or.inr (Or.inr (Or.inl ⟨congrArg some (cmp_gt k), k, by omega⟩))
  · obtain ⟨s, m, i, hr⟩ := read_fin hc
    by_cases h2 : y = 9218868437227405312
    · refine Or.inr (Or.inr (Or.inl ⟨?_, by omega, by omega⟩))
      unfold Format.order
      rw [hr, read_inf h2]; rfl
    · obtain ⟨t, p, hn⟩ := read_nan (y := y) (by omega) hy
      refine Or.inr (Or.inr (Or.inr ⟨?_, by omega⟩))
      unfold Format.order
      rw [hr, hn]; rfl
/-- a finite word beside the infinity -/
theorem ord_inf {y : Nat} (hy : y < 9218868437227405312) : double.order y 9218868437227405312 = some .lt := by
  obtain ⟨s, m, i, hr⟩ := read_fin hy
  unfold Format.order
  rw [hr, read_inf rfl]; rfl
end Flt
namespace Go.Proofs.Ytfpneojhhkfhpaa
open Go.RowKit

theorem bits_abs (x : Nat) (hx : x < 18446744073709551616) : bits .andNot .u64 (x : Int) 9223372036854775808 = ((x % 9223372036854775808 : Nat) : Int) := by
  have h2 : (BitVec.ofInt 64 (x : Int)).toNat = x := by
    rw [BitVec.ofInt_natCast, BitVec.toNat_ofNat]; exact Nat.mod_eq_of_lt (by omega)
  show IntKind.u64.wrap ((BitVec.ofInt 64 (x : Int) &&& ~~~(BitVec.ofInt 64 9223372036854775808)).toNat : Int) = _
  have h3 : (~~~(BitVec.ofInt 64 9223372036854775808)).toNat = 2 ^ 63 - 1 := by decide
  rw [BitVec.toNat_and, h2, h3, Nat.and_two_pow_sub_one_eq_mod, IntKind.wrap_u64]
  omega
theorem ret_f64 {a b : Nat} (h : a = b) : Ending.returned (.float .f64 a) = .returned (.float .f64 b) := by rw [h]
theorem abs_any (x : Nat) (w : World) (hx : x < 18446744073709551616) :
    Calls Try.prog 23 #[.float .f64 x] w fun e w' => e = .returned (.float .f64 (x % 9223372036854775808)) ∧ w = w' := by
  obtain ⟨y, hy⟩ : ∃ y, y = x % 9223372036854775808 := ⟨_, rfl⟩
  have hb : bits .andNot .u64 (x : Int) 9223372036854775808 = (y : Int) := by rw [hy]; exact bits_abs x hx
  have r1 := fun w => run_bits x w
  have r2 := fun w => run_frombits (y : Int) w
  rw [← hy]
  clear hy hx
  go_enter Try.func23, Try.ntmps23
  go_wp2
  go_ret
  exact ⟨ret_f64 (by simp), rfl⟩
end Go.Proofs.Ytfpneojhhkfhpaa

/- Layer 4's statements: the least power of two above a float, by math.Frexp. -/
namespace Go.Proofs.Ytfpneojhhkfhpaa
open Go.RowKit

theorem bits_2047 (x : Nat) (h1 : x ≤ 18446744073709551615) : bits .and .u64 (x : Int) 2047 = ((x % 2048 : Nat) : Int) := by
  have h2 : (BitVec.ofInt 64 (x : Int)).toNat = x := by
    rw [BitVec.ofInt_natCast, BitVec.toNat_ofNat]; exact Nat.mod_eq_of_lt (by omega)
  show IntKind.u64.wrap ((BitVec.ofInt 64 (x : Int) &&& BitVec.ofInt 64 2047).toNat : Int) = _
  have h3 : (BitVec.ofInt 64 2047).toNat = 2 ^ 11 - 1 := by decide
  rw [BitVec.toNat_and, h2, h3, Nat.and_two_pow_sub_one_eq_mod, IntKind.wrap_u64]
  omega
theorem ret_fi {f : Nat} {a b : Int} (h : a = b) : Ending.returned (.tuple #[.float .f64 f, .int .i64 a]) = .returned (.tuple #[.float .f64 f, .int .i64 b]) := by rw [h]
theorem isnan_no (x : Nat) (n : Int) (w : World) (hx : Flt.Num x n) :
    Calls Try.prog 42 #[.float .f64 x] w fun e w' => e = .returned (.bool false) ∧ w = w' := by
  have o := ord_same hx hx
  clear hx
  go_enter Try.func42, Try.ntmps42
  go_wp2
  go_ret
  exact ⟨ret_bool (by simp), rfl⟩
theorem ord_le_max {y : Nat} (hy : y < 9218868437227405312) : Ieee.double.order y 9218868437227405311 = some .lt ∨ Ieee.double.order y 9218868437227405311 = some .eq := by
  rcases Flt.ord4 y 9218868437227405311 (by omega) (by decide) with ⟨h, _⟩ | ⟨h, _⟩ | ⟨_, h, _⟩ | ⟨_, h⟩
  · exact Or.inl h
  · exact Or.inr h
  · omega
  · omega
theorem isinf_no (x : Nat) (w : World) (hx : x < 18446744073709551616) (hf : x % 9223372036854775808 < 9218868437227405312) :
    Calls Try.prog 41 #[.float .f64 x, .int .i64 0] w fun e w' => e = .returned (.bool false) ∧ w = w' := by
  have habs := fun w => abs_any x w hx
  obtain ⟨y, hy⟩ : ∃ y, y = x % 9223372036854775808 := ⟨_, rfl⟩
  rw [← hy] at habs hf
  clear hy hx
  rcases ord_le_max hf with o | o
  · have o : FloatKind.f64.format.order y 9218868437227405311 = _ := o
    go_enter Try.func41, Try.ntmps41
    go_wp2_with fail
    refine (habs _).mono ?_; rintro r w1 ⟨rfl, rfl⟩
    go_wp2
    go_ret
    exact ⟨ret_bool (by simp), rfl⟩
  · have o : FloatKind.f64.format.order y 9218868437227405311 = _ := o
    go_enter Try.func41, Try.ntmps41
    go_wp2_with fail
    refine (habs _).mono ?_; rintro r w1 ⟨rfl, rfl⟩
    go_wp2
    go_ret
    exact ⟨ret_bool (by simp), rfl⟩
theorem normalize_any (x : Nat) (w : World) (hx : x < 18446744073709551616) (hf : x % 9223372036854775808 < 9218868437227405312) (hn : 4503599627370496 ≤ x % 9223372036854775808) :
    Calls Try.prog 43 #[.float .f64 x] w fun e w' => e = .returned (.tuple #[.float .f64 x, .int .i64 0]) ∧ w = w' := by
  have habs := fun w => abs_any x w hx
  obtain ⟨y, hy⟩ : ∃ y, y = x % 9223372036854775808 := ⟨_, rfl⟩
  rw [← hy] at habs hf hn
  have o : FloatKind.f64.format.order y 4503599627370496 = some .eq ∨ FloatKind.f64.format.order y 4503599627370496 = some .gt := by
    rcases Flt.ord4 y 4503599627370496 (by omega) (by decide) with ⟨_, h⟩ | ⟨h, _⟩ | ⟨h, _, _⟩ | ⟨_, h⟩
    · omega
    · exact Or.inl h
    · exact Or.inr h
    · omega
  clear hy hx hf hn
  rcases o with o | o
  · go_enter Try.func43, Try.ntmps43
    go_wp2_with fail
    refine (habs _).mono ?_; rintro r w1 ⟨rfl, rfl⟩
    go_wp2
    go_ret2
    exact ⟨rfl, rfl⟩
  · go_enter Try.func43, Try.ntmps43
    go_wp2_with fail
    refine (habs _).mono ?_; rintro r w1 ⟨rfl, rfl⟩
    go_wp2
    go_ret2
    exact ⟨rfl, rfl⟩
set_option maxHeartbeats 1000000 in
theorem frexp_any (x : Nat) (n : Int) (w : World) (hx : Flt.Num x n) (hn : 4503599627370496 ≤ x % 9223372036854775808) :
    Calls Try.prog 39 #[.float .f64 x] w fun e w' => ∃ f : Nat, e = .returned (.tuple #[.float .f64 f, .int .i64 (((x % 9223372036854775808 / 4503599627370496 : Nat) : Int) - 1022)]) ∧ w = w' := by
  have hx64 := hx.lt
  have hf := hx.fin
  have e64 : (2 : Nat) ^ 64 = 18446744073709551616 := rfl
  have h1 := fun w => isnan_no x n w hx
  have h2 := fun w => isinf_no x w (by omega) hf
  have h3 := fun w => normalize_any x w (by omega) hf hn
  have hb := fun w => run_bits x w
  have hr := fun (z : Int) w => run_frombits z w
  have o0 : (FloatKind.f64.format.order x 0 == some Ordering.eq) = false := by
    by_cases c : x < 9223372036854775808
    · have : Ieee.double.order x 0 = some .gt := Flt.order_pos (by omega) (by omega)
      show (Ieee.double.order x 0 == some .eq) = false
      rw [this]; rfl
    · have : Ieee.double.order x 0 = some .lt := Flt.order_neg (y := x - 9223372036854775808) (by omega) (by omega) (by omega)
      show (Ieee.double.order x 0 == some .eq) = false
      rw [this]; rfl
  obtain ⟨E, hE⟩ : ∃ E : Nat, E = x % 9223372036854775808 / 4503599627370496 := ⟨_, rfl⟩
  rw [← hE]
  have eA : bits .and .u64 ((x : Int) / 4503599627370496) 2047 = (E : Int) := by
    have : ((x : Int) / 4503599627370496) = ((x / 4503599627370496 : Nat) : Int) := by omega
    rw [this, bits_2047 _ (by omega)]
    omega
  have E1 : E < 2047 := by omega
  clear hE hx hx64 hf hn e64
  go_enter Try.func39, Try.ntmps39
  go_wp2_with fail
  refine (h2 _).mono ?_; rintro r w1 ⟨rfl, rfl⟩
  go_wp2_with fail
  refine (h1 _).mono ?_; rintro r w1 ⟨rfl, rfl⟩
  go_wp2_with fail
  refine (h3 _).mono ?_; rintro r w1 ⟨rfl, rfl⟩
  go_wp2
  go_ret2
  exact ⟨_, ret_fi (by omega), rfl⟩
theorem bigFrexp_any (x : Nat) (n : Int) (w : World) (hx : Flt.Num x n) (hn : 4503599627370496 ≤ x % 9223372036854775808) :
    Calls Try.prog 33 #[.float .f64 x] w fun e w' => ∃ f : Nat, e = .returned (.tuple #[.float .f64 f, .int .i64 (((x % 9223372036854775808 / 4503599627370496 : Nat) : Int) - 1022)]) ∧ w = w' := by
  have h1 := fun w => frexp_any x n w hx hn
  obtain ⟨E, hE⟩ : ∃ E : Int, E = ((x % 9223372036854775808 / 4503599627370496 : Nat) : Int) - 1022 := ⟨_, rfl⟩
  rw [← hE] at h1 ⊢
  clear hE hx hn
  go_enter Try.func33, Try.ntmps33
  go_wp2_with fail
  refine (h1 _).mono ?_; rintro r w1 ⟨f, rfl, rfl⟩
  go_wp2
  go_ret2
  exact ⟨f, rfl, rfl⟩
theorem ord_nz {x : Nat} (hx : x < 18446744073709551616) (hf : x % 9223372036854775808 < 9218868437227405312) (h0 : 0 < x % 9223372036854775808) : (FloatKind.f64.format.order x 0 == some Ordering.eq) = false := by
  by_cases c : x < 9223372036854775808
  · have : Ieee.double.order x 0 = some .gt := Flt.order_pos (by omega) (by omega)
    show (Ieee.double.order x 0 == some .eq) = false
    rw [this]; rfl
  · have : Ieee.double.order x 0 = some .lt := Flt.order_neg (y := x - 9223372036854775808) (by omega) (by omega) (by omega)
    show (Ieee.double.order x 0 == some .eq) = false
    rw [this]; rfl
theorem topf_any (x : Nat) (n : Int) (w : World) (hx : Flt.Num x n) (hn : 4503599627370496 ≤ x % 9223372036854775808) :
    Calls Try.prog 19 #[.float .f64 x] w fun e w' => e = .returned (.int .i64 (((x % 9223372036854775808 / 4503599627370496 : Nat) : Int) - 1022)) ∧ w = w' := by
  have h1 := fun w => bigFrexp_any x n w hx hn
  have o0 := ord_nz hx.lt hx.fin (by omega)
  obtain ⟨E, hE⟩ : ∃ E : Int, E = ((x % 9223372036854775808 / 4503599627370496 : Nat) : Int) - 1022 := ⟨_, rfl⟩
  rw [← hE] at h1 ⊢
  clear hE hx hn
  go_enter Try.func19, Try.ntmps19
  go_wp2_with fail
  refine (h1 _).mono ?_; rintro r w1 ⟨f, rfl, rfl⟩
  go_wp2
  go_ret
  exact ⟨rfl, rfl⟩
theorem topf_zero (x : Nat) (w : World) (hx : Flt.Num x 0) :
    Calls Try.prog 19 #[.float .f64 x] w fun e w' => e = .returned (.int .i64 (-1200)) ∧ w = w' := by
  have z : Flt.Num 0 0 := by
    have h := Flt.num_of (x := 0) (by decide) (by decide)
    rwa [Flt.v_small (by decide)] at h
  have o0 := ord_same hx z
  clear hx z
  go_enter Try.func19, Try.ntmps19
  go_wp2
  go_ret
  exact ⟨rfl, rfl⟩
end Go.Proofs.Ytfpneojhhkfhpaa

/- Layer 4's statements: a tame number made of any bits (what New answers is its hypothesis). -/
namespace Flt
open Ieee

/-- a tame number, its two parts in least units -/
def TameN (H L : Int) : Prop := (H = 0 ∧ L = 0) ∨ (2 ^ 930 ≤ H.natAbs ∧ H.natAbs < 2 ^ 1220 ∧ rn (H + L) = H ∧ (L = 0 ∨ 2 ^ 674 ≤ L.natAbs))
theorem two_add60 (k : Nat) : 2 ^ (k + 60) = 2 ^ k * 2 ^ 60 := Nat.pow_add 2 k 60
/-- a float times one of at most 2^-60 -/
theorem small_part {h p P z : Int} (hh : FL h) (h1 : 2 ^ 934 ≤ h.natAbs) (hp : p.natAbs < 2 ^ 1014) (hP : p * h = P * 2 ^ uE) (hz : Near P z) : z.natAbs * 2 ^ 60 ≤ h.natAbs := by
  obtain ⟨e, hd, hlt, hc⟩ := canon hh
  have e1 := two_lt (Nat.lt_of_le_of_lt h1 hlt)
  obtain ⟨g, hg⟩ := two_dvd_of_le (show 60 ≤ e by omega) hd
  -- g = h / 2^60 is a float
  have hgf : FL g := by
    obtain ⟨m, hm⟩ := hd
    have e2 : (2 : Int) ^ e = 2 ^ 60 * 2 ^ (e - 60) := by rw [← Int.pow_add]; congr 1; omega
    have h3 : g = 2 ^ (e - 60) * m := by
      refine Int.eq_of_mul_eq_mul_left (Int.ne_of_gt (two_pos 60)) ?_
      rw [← hg, hm, e2, Int.mul_assoc]
    refine fl_of (e := e - 60) ⟨m, h3⟩ ?_
    have h4 : h.natAbs = 2 ^ 60 * g.natAbs := by rw [hg, Int.natAbs_mul, natAbs_two]
    have h5 : (2 : Nat) ^ (53 + e) = 2 ^ 60 * 2 ^ (53 + (e - 60)) := by rw [← Nat.pow_add]; congr 1; omega
    rw [h4, h5] at hlt
    exact Nat.le_of_lt (Nat.lt_of_mul_lt_mul_left hlt)
  have hga : h.natAbs = 2 ^ 60 * g.natAbs := by rw [hg, Int.natAbs_mul, natAbs_two]
  have hPle : P.natAbs ≤ g.natAbs := by
    have h6 : p.natAbs * h.natAbs = P.natAbs * 2 ^ uE := by
      have := congrArg Int.natAbs hP
      rwa [Int.natAbs_mul, Int.natAbs_mul, natAbs_two] at this
    have h7 := two_add60 1014
    rw [hga, show uE = 1014 + 60 from rfl, h7] at h6
    have h8 : P.natAbs * 2 ^ 1014 * 2 ^ 60 = p.natAbs * g.natAbs * 2 ^ 60 := by
      rw [Nat.mul_assoc P.natAbs, ← h6]; ac_rfl
    have h9 := Nat.eq_of_mul_eq_mul_right (Nat.pow_pos (by decide)) h8
    have h10 : P.natAbs * 2 ^ 1014 ≤ g.natAbs * 2 ^ 1014 := by
      rw [h9, Nat.mul_comm]
      exact Nat.mul_le_mul_left _ (Nat.le_of_lt hp)
    exact Nat.le_of_mul_le_mul_right h10 (two_posN 1014)
  have hzg : z.natAbs ≤ g.natAbs := by
    rcases Int.lt_or_le g 0 with c | c
    · have a1 := hz.le' (fl_neg hgf) (by omega)
      have a2 := hz.ge hgf (by omega)
      omega
    · have a1 := hz.le' hgf (by omega)
      have a2 := hz.ge (fl_neg hgf) (by omega)
      omega
  rw [hga, Nat.mul_comm]
  exact Nat.mul_le_mul_left _ hzg
theorem two_add4 (k : Nat) : 2 ^ (4 + k) = 16 * 2 ^ k := Nat.pow_add 2 4 k
theorem two_add6 (k : Nat) : 2 ^ (6 + k) = 64 * 2 ^ k := Nat.pow_add 2 6 k
theorem tame_made {h z : Int} (h1 : 2 ^ 934 ≤ h.natAbs) (h2 : h.natAbs < 2 ^ 1214) (hz : z.natAbs * 2 ^ 60 ≤ h.natAbs) (hL : 2 ^ 674 ≤ (h + z - rn (h + z)).natAbs) : TameN (rn (h + z)) (h + z - rn (h + z)) := by
  have hr := (rn_near (h + z)).rel
  have e60 : (2 : Nat) ^ 60 = 1152921504606846976 := rfl
  rw [e60] at hz
  have p1 := two_add4 930
  have p2 := two_add6 1214
  rw [show (4 + 930 : Nat) = 934 from rfl] at p1
  rw [show (6 + 1214 : Nat) = 1220 from rfl] at p2
  obtain ⟨A, hA⟩ : ∃ A, A = 2 ^ 930 := ⟨_, rfl⟩
  obtain ⟨B, hB⟩ : ∃ B, B = 2 ^ 1214 := ⟨_, rfl⟩
  obtain ⟨C, hC⟩ : ∃ C, C = 2 ^ 674 := ⟨_, rfl⟩
  obtain ⟨r, hrr⟩ : ∃ r, r = rn (h + z) := ⟨_, rfl⟩
  have e1 : rn (r + (h + z - r)) = r := by rw [show r + (h + z - r) = h + z from by omega]; exact hrr.symm
  unfold TameN
  rw [p1] at h1
  rw [p2, ← hrr]
  rw [← hrr] at hL hr
  rw [← hA] at h1 ⊢
  rw [← hB] at h2 ⊢
  rw [← hC] at hL ⊢
  exact Or.inr ⟨by omega, by omega, e1, Or.inr hL⟩
theorem tame_plain {h : Int} (hf : FL h) (h1 : 2 ^ 934 ≤ h.natAbs) (h2 : h.natAbs < 2 ^ 1214) : TameN h 0 :=
  Or.inr ⟨Nat.le_trans (two_le (a := 930) (b := 934) (by decide)) h1, Nat.lt_of_lt_of_le h2 (two_le (a := 1214) (b := 1220) (by decide)), by rw [Int.add_zero]; exact rn_fl hf, Or.inl rfl⟩
end Flt
namespace Go.Proofs.Ytfpneojhhkfhpaa
open Go.RowKit

/-- what New answers, of numbers that are not too great -/
def NewSaid : Prop := ∀ (x y : Nat) (a b : Int) (w : World), Flt.Num x a → Flt.Num y b → a.natAbs ≤ 2 ^ 1474 → b.natAbs ≤ 2 ^ 1474 →
  Calls Try.prog 9 #[.float .f64 x, .float .f64 y] w fun r w' => ∃ s e, r = .returned (.agg #[.float .f64 s, .float .f64 e]) ∧ Flt.Num s (Flt.rn (a + b)) ∧ Flt.Num e (a + b - Flt.rn (a + b)) ∧ Bel w w'
theorem part_prod {x y : Nat} {h p : Int} (hx : Flt.Num x h) (hy : Flt.Num y p) (h1 : 2 ^ 934 ≤ h.natAbs) (h2 : h.natAbs < 2 ^ 1214) (hp : p = 0 ∨ (2 ^ 964 ≤ p.natAbs ∧ p.natAbs < 2 ^ 1014)) :
    ∃ r z, Ieee.double.mul y x = some r ∧ Flt.Num r z ∧ z.natAbs * 2 ^ 60 ≤ h.natAbs := by
  rcases hp with rfl | ⟨p1, p2⟩
  · obtain ⟨r, k1, k2⟩ := Flt.mul0 hy hx (Or.inl rfl)
    exact ⟨r, 0, k1, k2, by simp⟩
  · have gh : Flt.GoodN h := Or.inr ⟨Nat.le_trans (Flt.two_le (a := 600) (b := 934) (by decide)) h1, Nat.lt_of_lt_of_le h2 (Flt.two_le (a := 1214) (b := 1500) (by decide))⟩
    have gp : Flt.GoodN p := Or.inr ⟨Nat.le_trans (Flt.two_le (a := 600) (b := 964) (by decide)) p1, Nat.lt_of_lt_of_le p2 (Flt.two_le (a := 1014) (b := 1500) (by decide))⟩
    obtain ⟨T, hT⟩ := good_prod hy hx gp gh
    obtain ⟨e, hd, hlt, hc⟩ := Flt.canon hx.fl
    obtain ⟨f, kd, klt, kc⟩ := Flt.canon hy.fl
    have e1 := Flt.two_lt (Nat.lt_of_le_of_lt h1 hlt)
    have f1 := Flt.two_lt (Nat.lt_of_le_of_lt p1 klt)
    have hge : 2 ^ (52 + e) ≤ h.natAbs := by rcases hc with h | h; omega; exact h
    have kge : 2 ^ (52 + f) ≤ p.natAbs := by rcases kc with h | h; omega; exact h
    have e2 := Flt.two_lt (Nat.lt_of_le_of_lt hge h2)
    have f2 := Flt.two_lt (Nat.lt_of_le_of_lt kge p2)
    obtain ⟨H, hH⟩ := hd
    obtain ⟨K, hK⟩ := kd
    rw [Int.mul_comm] at hH hK
    have b1 : H.natAbs ≤ 2 ^ 53 := by
      rw [hH, Flt.shift_abs, Nat.pow_add] at hlt
      exact Nat.le_of_lt (Nat.lt_of_mul_lt_mul_right hlt)
    have b2 : K.natAbs ≤ 2 ^ 53 := by
      rw [hK, Flt.shift_abs, Nat.pow_add] at klt
      exact Nat.le_of_lt (Nat.lt_of_mul_lt_mul_right klt)
    have hu : Flt.uE = 1074 := rfl
    obtain ⟨k, hk⟩ : ∃ k, f + e = k + Flt.uE := ⟨f + e - Flt.uE, by omega⟩
    obtain ⟨r, z, k1, k2, k3, _⟩ := Flt.mulx (hK ▸ hy) (hH ▸ hx) b2 b1 (by omega) (by omega) hk (by omega)
    have hTT : p * h = K * H * 2 ^ k * 2 ^ Flt.uE := by
      rw [hH, hK, Int.mul_assoc (K * H), ← Int.pow_add, ← hk, Int.pow_add]; ac_rfl
    exact ⟨r, z, k1, k2, Flt.small_part hx.fl h1 p2 hTT k3⟩
theorem tame_sum {h z : Int} (h2 : h.natAbs < 2 ^ 1214) (hz : z.natAbs * 2 ^ 60 ≤ h.natAbs) : (h + z).natAbs < 2 ^ Flt.top := by
  rw [show (2 : Nat) ^ 60 = 1152921504606846976 from rfl] at hz
  have e := Flt.two_add6 1214
  rw [show (6 + 1214 : Nat) = 1220 from rfl] at e
  have h3 := Flt.two_lt' (a := 1220) (b := Flt.top) (by decide)
  obtain ⟨A, hA⟩ : ∃ A, A = 2 ^ 1214 := ⟨_, rfl⟩
  obtain ⟨B, hB⟩ : ∃ B, B = 2 ^ 1220 := ⟨_, rfl⟩
  obtain ⟨C, hC⟩ : ∃ C, C = 2 ^ Flt.top := ⟨_, rfl⟩
  rw [← hA] at h2 e
  rw [← hB] at e h3
  rw [← hC] at h3 ⊢
  omega
/-- a word without its sign -/
theorem num_abs {x : Nat} {n : Int} (hx : Flt.Num x n) : Flt.Num (x % 9223372036854775808) ((n.natAbs : Nat) : Int) := by
  have hlt := hx.lt
  have hf := hx.fin
  have e64 : (2 : Nat) ^ 64 = 18446744073709551616 := rfl
  obtain ⟨y, hy⟩ : ∃ y, y = x % 9223372036854775808 := ⟨_, rfl⟩
  rw [← hy] at hf ⊢
  have hn := Flt.num_of (x := y) (by omega) (by omega)
  have h0 := Flt.v_nonneg hf
  by_cases c : x < 9223372036854775808
  · have e : y = x := by omega
    rw [e] at hn h0 ⊢
    rw [hx.val] at hn h0
    rwa [show ((n.natAbs : Nat) : Int) = n from by omega]
  · have hv := Flt.v_neg (x := x) (y := y) (by omega) hf
    rw [hx.val] at hv
    rwa [show ((n.natAbs : Nat) : Int) = Flt.vI y from by omega]
theorem v_400 : Flt.vI 2805742567851819008 = 2 ^ 674 := by
  rw [Flt.v_mid (by decide) (by decide)]
  have e1 : ((4503599627370496 + 2805742567851819008 % 4503599627370496 : Nat) : Int) = 2 ^ 52 := by decide
  have e2 : 2805742567851819008 / 4503599627370496 - 1 = 622 := by decide
  rw [e1, e2]
  have := Int.pow_add 2 52 622
  rw [show (52 + 622 : Nat) = 674 from rfl] at this
  exact this.symm
/-- from 2^-400 on -/
theorem cut_400 {y : Nat} {k : Nat} (hy : Flt.Num y (k : Int)) (h63 : y < 9223372036854775808) (h : 2805742567851819008 ≤ y) : 2 ^ 674 ≤ k := by
  have hf := hy.fin
  have hv := hy.val
  have hlt := hy.lt
  have e64 : (2 : Nat) ^ 64 = 18446744073709551616 := rfl
  have hf2 : y < 9218868437227405312 := by omega
  have h4 := v_400
  have pk := pw 674
  obtain ⟨A, hA⟩ : ∃ A, A = (2 : Int) ^ 674 := ⟨_, rfl⟩
  rw [← hA] at h4 pk
  obtain ⟨B, hB⟩ : ∃ B, B = (2 : Nat) ^ 674 := ⟨_, rfl⟩
  rw [← hB] at pk ⊢
  by_cases c : y = 2805742567851819008
  · rw [c] at hv; omega
  · have := Flt.v_lt (x := 2805742567851819008) (y := y) (by omega) hf2
    omega
theorem tame_nz {h z : Int} (h1 : 2 ^ 934 ≤ h.natAbs) (hz : z.natAbs * 2 ^ 60 ≤ h.natAbs) : Flt.rn (h + z) ≠ 0 := by
  have hr := (Flt.rn_near (h + z)).rel
  rw [show (2 : Nat) ^ 60 = 1152921504606846976 from rfl] at hz
  have h3 := Flt.two_posN 934
  obtain ⟨A, hA⟩ : ∃ A, A = 2 ^ 934 := ⟨_, rfl⟩
  rw [← hA] at h1 h3
  intro h0
  rw [h0] at hr
  omega
set_option maxHeartbeats 2000000 in
theorem tame_any (hnew : NewSaid) (b0 b1 : Int) (w : World) :
    Calls Try.prog 16 #[.agg #[.int .i64 b0, .int .i64 b1]] w fun r w' => ∃ x y H L, r = .returned (.agg #[.float .f64 x, .float .f64 y]) ∧ Flt.Num x H ∧ Flt.Num y L ∧ Flt.TameN H L ∧ (H = 0 → x = 0) ∧ Bel w w' := by
  have p0 := fun w => part_any b0 (-140) 280 w (by decide) (by decide) (by decide) (by decide)
  have p1 := fun w => part_any b1 (-110) 50 w (by decide) (by decide) (by decide) (by decide)
  rw [show (1074 + (-140 : Int)).toNat = 934 from rfl, show (1074 + (-140 : Int) + 280).toNat = 1214 from rfl] at p0
  rw [show (1074 + (-110 : Int)).toNat = 964 from rfl, show (1074 + (-110 : Int) + 50).toNat = 1014 from rfl] at p1
  have z0 : Flt.Num 0 0 := by
    have h := Flt.num_of (x := 0) (by decide) (by decide)
    rwa [Flt.v_small (by decide)] at h
  have sf := run_store_float Try.prog
  obtain ⟨w0, hw0⟩ : ∃ w0, w0 = (w.alloc (Obj.cells #[Value.int IntKind.i64 b0, Value.int IntKind.i64 b1] 38)).alloc (Obj.cells #[Value.float FloatKind.f64 0, Value.float FloatKind.f64 0] 25) := ⟨_, rfl⟩
  have hB0 : Bel w w0 := by rw [hw0]; exact ((Bel.refl w).alloc _).alloc _
  have hsz0 : w0.heap.size = w.heap.size + 2 := by rw [hw0]; simp
  have hT0 : Two w0 (w.heap.size + 1) 0 0 := by
    have := Two.new (w.alloc (Obj.cells #[Value.int IntKind.i64 b0, Value.int IntKind.i64 b1] 38)) 0 0 25
    rw [hw0]
    simpa using this
  have hcb : w0.cell? ⟨w.heap.size, 1, none⟩ = some (.int .i64 b1) := by
    rw [hw0, World.cell?_alloc_past _ _ _ (by simp), World.cell?_alloc_new]; rfl
  have hw0H := Lib.hid hw0
  clear hw0
  obtain ⟨R, hR⟩ : ∃ R, R = w.heap.size + 1 := ⟨_, rfl⟩
  go_enter Try.func16, Try.ntmps16
  go_wp2_with fail
  rw [← hw0H.out, ← hR]
  rw [← hR] at hT0
  have hRH := Lib.hid hR
  clear hR
  refine (p0 _).mono ?_; rintro r w1 ⟨x, h, rfl, hX, rfl⟩
  rcases hX.or with ⟨rfl, rfl⟩ | ⟨h1, h2, h3⟩
  · have o0 : FloatKind.f64.format.order 0 0 = some .eq := ord_same z0 z0
    clear hX
    obtain ⟨m1, m2⟩ := hT0.mid 0
    obtain ⟨d0, d1, _, _⟩ := hT0.set 0 0
    obtain ⟨c0, c1, f0, f1⟩ := hT0
    have hRw : w.heap.size ≤ R := by have := hRH.out; omega
    go_wp2
    refine bodyPost_ret (by simp [results, go_sem, d0, d1]; try rfl) rfl ?_
    exact ⟨0, 0, 0, 0, rfl, z0, z0, Or.inl ⟨rfl, rfl⟩, fun _ => rfl, (hB0.setCell hRw _).setCell hRw _⟩
  · have o0 := ord_nz hX.num.lt hX.num.fin (by omega)
    have hXH := Lib.hid hX
    have h12 := Lib.hid (And.intro h1 h2)
    clear hX h1 h2 h3
    go_wp2_with fail
    refine (p1 _).mono ?_; rintro r w1 ⟨y, p, rfl, hY, rfl⟩
    obtain ⟨u, z, m1, m2, m3⟩ := part_prod hXH.out.num hY.num h12.out.1 h12.out.2 (by
      rcases hY.or with ⟨h, _⟩ | ⟨h, h', _⟩
      · exact Or.inl h
      · exact Or.inr ⟨h, h'⟩)
    have o1 := fun w => run_fmul (P := Try.prog) 22 m1 w
    have m3H := Lib.hid m3
    clear m1 hY
    have hz16 : z.natAbs ≤ 2 ^ 1474 := Nat.le_trans (Nat.le_trans (by rw [show (2 : Nat) ^ 60 = 1152921504606846976 from rfl] at m3; omega) (Nat.le_of_lt h12.out.2)) (Flt.two_le (a := 1214) (b := 1474) (by decide))
    have hh16 : h.natAbs ≤ 2 ^ 1474 := Nat.le_trans (Nat.le_of_lt h12.out.2) (Flt.two_le (a := 1214) (b := 1474) (by decide))
    have hN := fun w => hnew x u h z w hXH.out.num m2 hh16 hz16
    clear m3 hz16 hh16 m2
    go_wp2_with fail
    refine (hN _).mono ?_; rintro r w1 ⟨s, e, rfl, ns, ne, hB1⟩
    have hsz1 := hB1.size
    have hT1 := hT0.bel hB1 (by have := hRH.out; omega)
    obtain ⟨w2, hw2⟩ : ∃ w2, w2 = w1.alloc (.cells #[.float .f64 s, .float .f64 e] 25) := ⟨_, rfl⟩
    have hB12 : Bel w1 w2 := by rw [hw2]; exact (Bel.refl w1).alloc _
    have hT2 := hT1.bel hB12 (by have := hRH.out; omega)
    have hB2 := (hB0.trans hB1).trans hB12
    have hS2 : Two w2 w1.heap.size s e := by rw [hw2]; exact Two.new w1 s e _
    have hsum := tame_sum h12.out.2 m3H.out
    have hneat := fun w => neat_any s e _ _ w ns ne (by rw [show Flt.rn (h + z) + (h + z - Flt.rn (h + z)) = h + z from by omega]; exact hsum) (by rw [show Flt.rn (h + z) + (h + z - Flt.rn (h + z)) = h + z from by omega])
    have habs := fun w => abs_any e w ne.lt
    have nA := num_abs ne
    obtain ⟨y', hy'⟩ : ∃ y', y' = e % 9223372036854775808 := ⟨_, rfl⟩
    rw [← hy'] at habs nA
    have ho := Flt.ord4 y' 2805742567851819008 (by omega) (by decide)
    have hcut := cut_400 nA (by omega)
    have hyf := Lib.hid (show y' < 9218868437227405312 by have := ne.fin; omega)
    have nsH := Lib.hid ns
    have neH := Lib.hid ne
    have hRw : w.heap.size ≤ R := by have := hRH.out; omega
    have hw2H := Lib.hid hw2
    obtain ⟨s0, s1, sf0, sf1⟩ := hS2
    clear ns ne nA hy' hw2 hT1 hcb hsum hB1 hB12
    rcases ho with ⟨o, ho'⟩ | ⟨o, ho'⟩ | ⟨o, ho', _⟩ | ⟨o, ho'⟩
    · have o2 : FloatKind.f64.format.order y' 2805742567851819008 = _ := o
      clear o ho' hcut
      obtain ⟨m1, m2⟩ := hT2.mid x
      obtain ⟨d0, d1, _, _⟩ := hT2.set x 0
      obtain ⟨c0, c1, f0, f1⟩ := hT2
      go_wp2_with fail
      rw [← hw2H.out]
      refine (hneat _).mono ?_; rintro r w3 ⟨rfl, rfl⟩
      go_wp2_with fail
      refine (habs _).mono ?_; rintro r w3 ⟨rfl, rfl⟩
      go_wp2
      refine bodyPost_ret (by simp [results, go_sem, d0, d1]; try rfl) rfl ?_
      exact ⟨x, 0, h, 0, rfl, hXH.out.num, z0, Flt.tame_plain hXH.out.num.fl h12.out.1 h12.out.2, fun h0 => by have h5 := h12.out.1; rw [h0] at h5; exact absurd h5 (Nat.not_le_of_lt (Flt.two_posN 934)), (hB2.setCell hRw _).setCell hRw _⟩
    · have o2 : FloatKind.f64.format.order y' 2805742567851819008 = _ := o
      have hL := Lib.hid (hcut (by omega))
      clear o ho' hcut
      obtain ⟨m1, m2⟩ := hT2.mid s
      obtain ⟨d0, d1, _, _⟩ := hT2.set s e
      obtain ⟨c0, c1, f0, f1⟩ := hT2
      go_wp2_with fail
      rw [← hw2H.out]
      refine (hneat _).mono ?_; rintro r w3 ⟨rfl, rfl⟩
      go_wp2_with fail
      refine (habs _).mono ?_; rintro r w3 ⟨rfl, rfl⟩
      go_wp2
      refine bodyPost_ret (by simp [results, go_sem, d0, d1]; try rfl) rfl ?_
      refine ⟨s, e, _, _, rfl, nsH.out, neH.out, Flt.tame_made h12.out.1 h12.out.2 m3H.out hL.out, fun h0 => ?_, (hB2.setCell hRw _).setCell hRw _⟩
      exact absurd (tame_nz h12.out.1 m3H.out) (by rw [h0]; simp)
    · have o2 : FloatKind.f64.format.order y' 2805742567851819008 = _ := o
      have hL := Lib.hid (hcut (by omega))
      clear o ho' hcut
      obtain ⟨m1, m2⟩ := hT2.mid s
      obtain ⟨d0, d1, _, _⟩ := hT2.set s e
      obtain ⟨c0, c1, f0, f1⟩ := hT2
      go_wp2_with fail
      rw [← hw2H.out]
      refine (hneat _).mono ?_; rintro r w3 ⟨rfl, rfl⟩
      go_wp2_with fail
      refine (habs _).mono ?_; rintro r w3 ⟨rfl, rfl⟩
      go_wp2
      refine bodyPost_ret (by simp [results, go_sem, d0, d1]; try rfl) rfl ?_
      refine ⟨s, e, _, _, rfl, nsH.out, neH.out, Flt.tame_made h12.out.1 h12.out.2 m3H.out hL.out, fun h0 => ?_, (hB2.setCell hRw _).setCell hRw _⟩
      exact absurd (tame_nz h12.out.1 m3H.out) (by rw [h0]; simp)
    · exact absurd ho' (Nat.not_lt_of_lt hyf.out)
end Go.Proofs.Ytfpneojhhkfhpaa

/- Layer 4's statements: the product of two numbers is added. -/
namespace Go.Proofs.Ytfpneojhhkfhpaa
open Go.RowKit

set_option maxHeartbeats 2000000 in
theorem times_sgn (s : Nat) (σ : Int) (hs : Sgn s σ) (g : Nat) (f : Nat → Int) (x y u v : Nat) (a b c d T1 T2 T3 T4 : Int) (w : World)
    (hx : Flt.Num x a) (hy : Flt.Num y b) (hu : Flt.Num u c) (hv : Flt.Num v d) (ha : Flt.GoodN a) (hb : Flt.GoodN b) (hc : Flt.GoodN c) (hd : Flt.GoodN d)
    (h1 : a * c = T1 * 2 ^ Flt.uE) (h2 : a * d = T2 * 2 ^ Flt.uE) (h3 : b * c = T3 * 2 ^ Flt.uE) (h4 : b * d = T4 * 2 ^ Flt.uE)
    (hf : LongAt w g f) (hg : g < w.heap.size) (hbd : ∀ i, (f i).natAbs ≤ 562949953421312) :
    Calls Try.prog 21 #[.pointer (some ⟨g, 0, none⟩), .agg #[.float .f64 x, .float .f64 y], .agg #[.float .f64 u, .float .f64 v], .float .f64 s] w fun r w' => r = .returned (.tuple #[]) ∧ ∃ f', LongAt w' g f' ∧ lval f' = lval f + σ * (T1 + T2 + T3 + T4) * 2 ^ 126 ∧ (∀ j, (f' j - f j).natAbs ≤ 51539607552) ∧ Touch g w w' := by
  obtain ⟨p, p1, p2⟩ := hs.2 hx (GoodN.w ha)
  obtain ⟨q, q1, q2⟩ := hs.2 hy (GoodN.w hb)
  have gp := hs.good ha
  have gq := hs.good hb
  have o1 := fun w => run_fmul (P := Try.prog) 22 p1 w
  have o2 := fun w => run_fmul (P := Try.prog) 22 q1 w
  have k : ∀ {a c T : Int}, a * c = T * 2 ^ Flt.uE → σ * a * c = σ * T * 2 ^ Flt.uE := fun h => by rw [Int.mul_assoc, h, Int.mul_assoc]
  have t1 := fun f w => times_good g f p u (σ * a) c (σ * T1) w p2 hu gp hc (k h1)
  have t2 := fun f w => times_good g f p v (σ * a) d (σ * T2) w p2 hv gp hd (k h2)
  have t3 := fun f w => times_good g f q u (σ * b) c (σ * T3) w q2 hu gq hc (k h3)
  have t4 := fun f w => times_good g f q v (σ * b) d (σ * T4) w q2 hv gq hd (k h4)
  obtain ⟨w1, hw1⟩ : ∃ w1, w1 = (w.alloc (.cells #[.float .f64 x, .float .f64 y] 25)).alloc (.cells #[.float .f64 u, .float .f64 v] 25) := ⟨_, rfl⟩
  have hB1 : Bel w w1 := by rw [hw1]; exact ((Bel.refl w).alloc _).alloc _
  have hL1 := hf.bel hB1 hg
  have hW1 : Touch g w w1 := hB1.touch (Nat.le_of_lt hg)
  have c0 : w1.cell? ⟨w.heap.size, 0, none⟩ = some (.float .f64 x) := by
    rw [hw1, World.cell?_alloc_past _ _ _ (by simp), World.cell?_alloc_new]; rfl
  have c1 : w1.cell? ⟨w.heap.size, 1, none⟩ = some (.float .f64 y) := by
    rw [hw1, World.cell?_alloc_past _ _ _ (by simp), World.cell?_alloc_new]; rfl
  have c2 : w1.cell? ⟨w.heap.size + 1, 0, none⟩ = some (.float .f64 u) := by
    rw [hw1, World.cell?_alloc_at _ _ _ _ (by simp)]; rfl
  have c3 : w1.cell? ⟨w.heap.size + 1, 1, none⟩ = some (.float .f64 v) := by
    rw [hw1, World.cell?_alloc_at _ _ _ _ (by simp)]; rfl
  have hsz : w1.heap.size = w.heap.size + 2 := by rw [hw1]; simp
  have hgH := Lib.hid hg
  have hw1H := Lib.hid hw1
  clear hw1 p1 q1 hx hy hu hv ha hb hc hd hs gp gq p2 q2 h1 h2 h3 h4 hf hg
  go_enter Try.func21, Try.ntmps21
  go_wp2_with fail
  rw [← hw1H.out]
  refine (t1 f _ hL1 (fun i => Nat.le_trans (hbd i) (by decide))).mono ?_; rintro r w2 ⟨rfl, f1, l1, v1, d1, e1⟩
  have n1 := hgH.out
  have v1H := Lib.hid v1
  have e1H := Lib.hid e1
  have c0a := (e1.cell (p := ⟨w.heap.size, 0, none⟩) (by rw [hsz]; simp) (by simp; omega)).trans c0
  have c1a := (e1.cell (p := ⟨w.heap.size, 1, none⟩) (by rw [hsz]; simp) (by simp; omega)).trans c1
  have c2a := (e1.cell (p := ⟨w.heap.size + 1, 0, none⟩) (by rw [hsz]; simp) (by simp; omega)).trans c2
  have c3a := (e1.cell (p := ⟨w.heap.size + 1, 1, none⟩) (by rw [hsz]; simp) (by simp; omega)).trans c3
  have q1 : ∀ j, (f1 j).natAbs ≤ 575837814784 + 562949953421312 := fun j => by have := d1 j; have := hbd j; omega
  have z1 := e1.below.size
  clear v1 e1 c0 c1 c2 c3
  go_wp2_with fail
  refine (t2 f1 _ l1 (fun i => Nat.le_trans (q1 i) (by decide))).mono ?_; rintro r w3 ⟨rfl, f2, l2, v2, d2, e2⟩
  have v2H := Lib.hid v2
  have e2H := Lib.hid e2
  have c0b := (e2.cell (p := ⟨w.heap.size, 0, none⟩) (by simp; omega) (by simp; omega)).trans c0a
  have c1b := (e2.cell (p := ⟨w.heap.size, 1, none⟩) (by simp; omega) (by simp; omega)).trans c1a
  have c2b := (e2.cell (p := ⟨w.heap.size + 1, 0, none⟩) (by simp; omega) (by simp; omega)).trans c2a
  have c3b := (e2.cell (p := ⟨w.heap.size + 1, 1, none⟩) (by simp; omega) (by simp; omega)).trans c3a
  have q2 : ∀ j, (f2 j).natAbs ≤ 575837814784 * 2 + 562949953421312 := fun j => by have := d2 j; have := q1 j; omega
  have z2 := e2.below.size
  clear v2 e2 c0a c1a c2a c3a
  go_wp2_with fail
  refine (t3 f2 _ l2 (fun i => Nat.le_trans (q2 i) (by decide))).mono ?_; rintro r w4 ⟨rfl, f3, l3, v3, d3, e3⟩
  have v3H := Lib.hid v3
  have e3H := Lib.hid e3
  have c0c := (e3.cell (p := ⟨w.heap.size, 0, none⟩) (by simp; omega) (by simp; omega)).trans c0b
  have c1c := (e3.cell (p := ⟨w.heap.size, 1, none⟩) (by simp; omega) (by simp; omega)).trans c1b
  have c2c := (e3.cell (p := ⟨w.heap.size + 1, 0, none⟩) (by simp; omega) (by simp; omega)).trans c2b
  have c3c := (e3.cell (p := ⟨w.heap.size + 1, 1, none⟩) (by simp; omega) (by simp; omega)).trans c3b
  have q3 : ∀ j, (f3 j).natAbs ≤ 575837814784 * 3 + 562949953421312 := fun j => by have := d3 j; have := q2 j; omega
  clear v3 e3 c0b c1b c2b c3b
  go_wp2_with fail
  refine (t4 f3 _ l3 (fun i => Nat.le_trans (q3 i) (by decide))).mono ?_; rintro r w5 ⟨rfl, f4, l4, v4, d4, e4⟩
  have v4H := Lib.hid v4
  clear v4 c0c c1c c2c c3c
  go_wp2
  go_end0
  refine ⟨rfl, f4, l4, ?_, fun j => by have := d1 j; have := d2 j; have := d3 j; have := d4 j; omega, (((hW1.trans e1H.out).trans e2H.out).trans e3H.out).trans e4⟩
  rw [v4H.out, v3H.out, v2H.out, v1H.out]
  simp only [Int.mul_add, Int.add_mul, Int.add_assoc]
end Go.Proofs.Ytfpneojhhkfhpaa

/- The digits of a long number: carries, the digits turned, how many bits. Over whole numbers. No program is named here. -/
namespace Go.Proofs.Ytfpneojhhkfhpaa
open Go.RowKit

theorem two_i (k : Nat) : (0 : Int) < 2 ^ k := Int.pow_pos (by decide)
/-- digits from 0 to 2^30 - 1, up to n -/
def Digs (d : Nat → Int) (n : Nat) : Prop := ∀ j, j < n → 0 ≤ d j ∧ d j < 1073741824
theorem Digs.sum {d : Nat → Int} : ∀ {n : Nat}, Digs d n → 0 ≤ lsum d n ∧ lsum d n < 2 ^ (30 * n)
  | 0, _ => by simp [lsum]
  | n + 1, h => by
    obtain ⟨h1, h2⟩ := Digs.sum (n := n) fun j hj => h j (by omega)
    obtain ⟨d1, d2⟩ := h n (by omega)
    show 0 ≤ lsum d n + d n * 2 ^ (30 * n) ∧ lsum d n + d n * 2 ^ (30 * n) < 2 ^ (30 * (n + 1))
    have e : (2 : Int) ^ (30 * (n + 1)) = 1073741824 * 2 ^ (30 * n) := by
      rw [show 30 * (n + 1) = 30 + 30 * n from by omega, Int.pow_add]; rfl
    have hp := two_i (30 * n)
    obtain ⟨P, hP⟩ : ∃ P, P = (2 : Int) ^ (30 * n) := ⟨_, rfl⟩
    rw [e]
    rw [← hP] at h2 hp ⊢
    have b1 : 0 ≤ d n * P := Int.mul_nonneg d1 (by omega)
    have b2 : d n * P ≤ 1073741823 * P := Int.mul_le_mul_of_nonneg_right (by omega) (by omega)
    omega
theorem Digs.upd {d : Nat → Int} {n : Nat} {v : Int} (h : Digs d n) (hv : 0 ≤ v ∧ v < 1073741824) : Digs (upd d n v) (n + 1) := by
  intro j hj
  by_cases c : j = n
  · subst c; rw [upd_same]; exact hv
  · rw [upd_other d v c]; exact h j (by omega)
theorem lsum_upd_ge (d : Nat → Int) (v : Int) {n k : Nat} (h : n ≤ k) : lsum (upd d k v) n = lsum d n :=
  lsum_congr n fun i hi => upd_other d v (by omega)

/-- the first loop: digits and a carry -/
structure CarInv (f d : Nat → Int) (i : Nat) (c : Int) : Prop where
  digs : Digs d i
  eq : lsum f i = lsum d i + c * 2 ^ (30 * i)
theorem CarInv.start (f d : Nat → Int) : CarInv f d 0 0 := ⟨fun j hj => by omega, by simp [lsum]⟩
theorem CarInv.next {f d : Nat → Int} {i : Nat} {c v : Int} (h : CarInv f d i c) (hv : v = f i + c) : CarInv f (upd d i (v % 1073741824)) (i + 1) (v / 1073741824) := by
  refine ⟨h.digs.upd (by omega), ?_⟩
  show lsum f i + f i * 2 ^ (30 * i) = lsum (upd d i (v % 1073741824)) i + upd d i (v % 1073741824) i * 2 ^ (30 * i) + _
  rw [upd_same, lsum_upd_ge d _ (Nat.le_refl i), h.eq, show 30 * (i + 1) = 30 + 30 * i from by omega, Int.pow_add]
  have e : f i + c = v % 1073741824 + v / 1073741824 * 1073741824 := by omega
  have e30 : (2 : Int) ^ 30 = 1073741824 := rfl
  rw [e30, ← Int.mul_assoc, Int.add_assoc, Int.add_assoc, ← Int.add_mul, ← Int.add_mul]
  have : c + f i = v % 1073741824 + v / 1073741824 * 1073741824 := by omega
  rw [this]
/-- the second loop: the digits turned, and one more; what is not yet turned stands as it was -/
structure TurInv (d e : Nat → Int) (i : Nat) (m : Int) : Prop where
  digs : Digs e i
  rest : ∀ j, i ≤ j → e j = d j
  eq : lsum e i + m * 2 ^ (30 * i) = 2 ^ (30 * i) - lsum d i
  m : m = 0 ∨ m = 1
theorem TurInv.start (d : Nat → Int) : TurInv d d 0 1 := ⟨fun j hj => by omega, fun _ _ => rfl, by simp [lsum], Or.inr rfl⟩
theorem TurInv.next {d e : Nat → Int} {i : Nat} {m v : Int} (h : TurInv d e i m) (hd : 0 ≤ d i ∧ d i < 1073741824) (hv : v = 1073741823 - d i + m) : TurInv d (upd e i (v % 1073741824)) (i + 1) (v / 1073741824) := by
  have hm := h.m
  refine ⟨h.digs.upd (by omega), fun j hj => ?_, ?_, by omega⟩
  · rw [upd_other e _ (by omega)]; exact h.rest j (by omega)
  · show lsum (upd e i (v % 1073741824)) i + upd e i (v % 1073741824) i * 2 ^ (30 * i) + _ = _ - (lsum d i + d i * 2 ^ (30 * i))
    rw [upd_same, lsum_upd_ge e _ (Nat.le_refl i), show 30 * (i + 1) = 30 + 30 * i from by omega, Int.pow_add]
    have e30 : (2 : Int) ^ 30 = 1073741824 := rfl
    have h1 := h.eq
    obtain ⟨P, hP⟩ : ∃ P, P = (2 : Int) ^ (30 * i) := ⟨_, rfl⟩
    rw [← hP] at h1 ⊢
    rw [e30]
    have e2 : v % 1073741824 * P + v / 1073741824 * (1073741824 * P) = (1073741823 - d i + m) * P := by
      rw [← Int.mul_assoc, ← Int.add_mul]
      congr 1; omega
    have e3 : (1073741823 - d i + m) * P = 1073741823 * P - d i * P + m * P := by rw [Int.add_mul, Int.sub_mul]
    omega
/-- how many bits a number has, less 1200 -/
def SizeIs (v : Nat) (k : Int) : Prop := (v = 0 ∧ k = -1200) ∨ ∃ n : Nat, k = (n : Int) - 1200 ∧ 1 ≤ n ∧ 2 ^ (n - 1) ≤ v ∧ v < 2 ^ n
theorem SizeIs.le {v n : Nat} {k : Int} (h : SizeIs v k) (hv : v < 2 ^ n) : k ≤ (n : Int) - 1200 := by
  rcases h with ⟨_, h⟩ | ⟨m, h1, h2, h3, h4⟩
  · omega
  · have := Flt.two_lt (Nat.lt_of_le_of_lt h3 hv)
    omega
/-- zeros from the top down to i -/
theorem lsum_zeros {d : Nat → Int} {i : Nat} : ∀ n, i ≤ n → (∀ j, i ≤ j → j < n → d j = 0) → lsum d n = lsum d i
  | 0, h, _ => by have : i = 0 := by omega
                  subst this; rfl
  | n + 1, h, hz => by
    by_cases c : i = n + 1
    · subst c; rfl
    · show lsum d n + d n * _ = _
      rw [hz n (by omega) (by omega), Int.zero_mul, Int.add_zero]
      exact lsum_zeros n (by omega) fun j h1 h2 => hz j h1 (by omega)
theorem size_at {d : Nat → Int} {i j : Nat} {v : Nat} (hd : Digs d 110) (hi : i < 110) (hz : ∀ j, i + 1 ≤ j → j < 110 → d j = 0) (hv : (v : Int) = lsum d 110) (hj : 1 ≤ j) (h1 : (2 : Int) ^ (j - 1) ≤ d i) (h2 : d i < 2 ^ j) : SizeIs v (30 * (i : Int) - 1200 + (j : Int)) := by
  refine Or.inr ⟨30 * i + j, by omega, by omega, ?_⟩
  have e := lsum_zeros (d := d) (i := i + 1) 110 (by omega) hz
  obtain ⟨b1, b2⟩ := Digs.sum (d := d) (n := i) fun j hj => hd j (by omega)
  have e2 : lsum d 110 = lsum d i + d i * 2 ^ (30 * i) := e
  have hp := two_i (30 * i)
  obtain ⟨P, hP⟩ : ∃ P, P = (2 : Int) ^ (30 * i) := ⟨_, rfl⟩
  rw [← hP] at e2 b2 hp
  have k1 : (2 : Int) ^ (j - 1) * P ≤ d i * P := Int.mul_le_mul_of_nonneg_right h1 (by omega)
  have k2 : (d i + 1) * P ≤ 2 ^ j * P := Int.mul_le_mul_of_nonneg_right (by omega) (by omega)
  rw [Int.add_mul, Int.one_mul] at k2
  have p1 : ((2 ^ (30 * i + j - 1) : Nat) : Int) = 2 ^ (j - 1) * P := by
    rw [hP, ← Int.pow_add, pw, show j - 1 + 30 * i = 30 * i + j - 1 from by omega]
  have p2 : ((2 ^ (30 * i + j) : Nat) : Int) = 2 ^ j * P := by
    rw [hP, ← Int.pow_add, pw, show j + 30 * i = 30 * i + j from by omega]
  constructor
  · have : ((2 ^ (30 * i + j - 1) : Nat) : Int) ≤ (v : Int) := by rw [p1]; omega
    exact Int.ofNat_le.1 this
  · have : (v : Int) < ((2 ^ (30 * i + j) : Nat) : Int) := by rw [p2]; omega
    exact Int.ofNat_lt.1 this
/-- the sign, from the last carry -/
def bigE : Nat := 30 * 110
noncomputable def bigP : Nat := Classical.choose (⟨2 ^ bigE, rfl⟩ : ∃ v, v = 2 ^ bigE)
theorem bigP_eq : bigP = 2 ^ bigE := Classical.choose_spec (⟨2 ^ bigE, rfl⟩ : ∃ v, v = 2 ^ bigE)
theorem CarInv.done {f d : Nat → Int} {c : Int} (h : CarInv f d 110 c) (hb : (lval f).natAbs < bigP) : (c = 0 ∧ lsum d 110 = lval f) ∨ (c ≠ 0 ∧ lsum d 110 = lval f + (bigP : Int) ∧ lval f < 0) := by
  rw [bigP_eq] at hb ⊢
  have h1 := h.eq
  rw [pw bigE]
  rw [← lval_eq] at h1
  obtain ⟨b1, b2⟩ := h.digs.sum
  have e : (2 : Int) ^ (30 * 110) = 2 ^ bigE := rfl
  rw [e] at h1 b2
  have hp := two_i bigE
  have hpn : ((2 ^ bigE : Nat) : Int) = 2 ^ bigE := pw bigE
  obtain ⟨P, hP⟩ : ∃ P, P = (2 : Int) ^ bigE := ⟨_, rfl⟩
  have hb' : ((lval f).natAbs : Int) < P := by rw [hP, ← hpn]; exact Int.ofNat_lt.2 hb
  rw [← hP] at h1 b2 hp ⊢
  by_cases c0 : c = 0
  · left
    refine ⟨c0, ?_⟩
    rw [c0, Int.zero_mul] at h1; omega
  · right
    have c1 : c = -1 := by
      rcases Int.lt_trichotomy c (-1) with k | k | k
      · have : c * P ≤ (-2) * P := Int.mul_le_mul_of_nonneg_right (by omega) (by omega)
        omega
      · exact k
      · have : 1 * P ≤ c * P := Int.mul_le_mul_of_nonneg_right (by omega) (by omega)
        omega
    rw [c1] at h1
    exact ⟨c0, by omega, by omega⟩
theorem TurInv.done {f d e : Nat → Int} {m : Int} (h : TurInv d e 110 m) (hd : lsum d 110 = lval f + (bigP : Int)) (hneg : lval f < 0) (hb : (lval f).natAbs < bigP) : lsum e 110 = ((lval f).natAbs : Nat) := by
  rw [bigP_eq] at hb hd
  rw [pw bigE] at hd
  have h1 := h.eq
  have e' : (2 : Int) ^ (30 * 110) = 2 ^ bigE := rfl
  rw [e', hd] at h1
  obtain ⟨b1, b2⟩ := h.digs.sum
  have hp := two_i bigE
  have hpn : ((2 ^ bigE : Nat) : Int) = 2 ^ bigE := pw bigE
  obtain ⟨P, hP⟩ : ∃ P, P = (2 : Int) ^ bigE := ⟨_, rfl⟩
  have hb' : ((lval f).natAbs : Int) < P := by rw [hP, ← hpn]; exact Int.ofNat_lt.2 hb
  rw [← hP] at h1 hp
  rcases h.m with k | k
  · rw [k, Int.zero_mul] at h1; omega
  · rw [k, Int.one_mul] at h1; omega
end Go.Proofs.Ytfpneojhhkfhpaa

/- The reference's Value and Size (layer 4): the digits of a long number, and how many bits it has. -/
namespace Go.Proofs.Ytfpneojhhkfhpaa
open Go.RowKit

theorem digits_new (w : World) : (Instr.makeSlice 58 (.int .i64 110) (.int .i64 110)).run Try.prog w = .ok (.slice (some ⟨w.heap.size, 0, none⟩) 110 110) (w.alloc (.cells (Array.replicate 110 (.int .i64 0)) 2)) := by kernel_rfl
theorem digits_at (w : World) (t : TypeId) : LongAt (w.alloc (.cells (Array.replicate 110 (.int .i64 0)) t)) w.heap.size (fun _ => 0) := by
  intro i hi
  refine ⟨?_, ?_⟩
  · rw [World.cell?_alloc_new, Array.getElem?_replicate, if_pos hi]
  · exact frozen_of_row _ _ i _ t (heap_alloc_new w _)
set_option maxHeartbeats 4000000 in
theorem value_any (g : Nat) (f : Nat → Int) (w : World) (hf : LongAt w g f) (hg : g < w.heap.size) (hb : ∀ i, (f i).natAbs ≤ 2305843009213693952) (hv : (lval f).natAbs < bigP) :
    Calls Try.prog 32 #[.pointer (some ⟨g, 0, none⟩)] w fun r w' => ∃ (b : Bool) (h : Nat) (d : Nat → Int), r = .returned (.tuple #[.bool b, .slice (some ⟨h, 0, none⟩) 110 110]) ∧ LongAt w' h d ∧ w.heap.size ≤ h ∧ Digs d 110 ∧ lsum d 110 = ((lval f).natAbs : Nat) ∧ Bel w w' := by
  have hnew := digits_new
  have hB0 := (Bel.refl w).alloc (.cells (Array.replicate 110 (.int .i64 0)) 2)
  have hL0 := digits_at w 2
  have hvH := Lib.hid hv
  clear hv
  obtain ⟨h, hh⟩ : ∃ h, h = w.heap.size := ⟨_, rfl⟩
  rw [← hh] at hL0
  go_enter Try.func32, Try.ntmps32
  go_wp2
  rw [← hh]
  generalize hw1 : w.alloc (.cells (Array.replicate 110 (.int .i64 0)) 2) = w1 at hB0 hL0 ⊢
  have hhH := Lib.hid (Nat.le_of_eq hh.symm)
  clear hw1 hh
  go_loopw [5, 6, 7] (fun a b _ wr => ∃ (c : Int) (i : Nat) (d : Nat → Int), CarInv f d i c ∧ i ≤ 110 ∧ c.natAbs ≤ 4294967296 ∧ a = .int .i64 c ∧ b = .int .i64 (i : Int) ∧ LongAt wr h d ∧ Bel w wr) (fun _ b _ _ => (110 - intOf b).toNat)
  case atStart => exact ⟨0, 0, _, CarInv.start f _, by omega, by decide, rfl, rfl, hL0, hB0⟩
  case round =>
    obtain ⟨c, i, d, hI, hi, hc, rfl, rfl, hL, hB⟩ := hrel
    by_cases hlt : i < 110
    · obtain ⟨c1, z1⟩ := hf i hlt
      have c1' := (hB.cell (p := ⟨g, i, none⟩) hg).trans c1
      obtain ⟨c2, z2⟩ := hL i hlt
      obtain ⟨v, hv⟩ : ∃ v : Int, v = f i := ⟨_, rfl⟩
      have bv := hb i
      rw [← hv] at c1' bv
      have hN := hI.next (v := v + c) (by rw [hv])
      have eA : bits .and .i64 (v + c) 1073741823 = (v + c) % 1073741824 := bits_30i _
      obtain ⟨D, hD⟩ : ∃ D, D = (v + c) % 1073741824 := ⟨_, rfl⟩
      rw [← hD] at eA hN
      have hNH := Lib.hid hN
      have hL2 := hL.put hlt D
      have hB2 := hB.setCell (p := ⟨h, i, none⟩) hhH.out (.int .i64 D)
      clear hN hI hv hD c1 z1 hL
      go_wp2
      go_roundw
      case rel => exact ⟨_, i + 1, _, hNH.out, by omega, by omega, rfl, by simp, hL2, hB2⟩
      case measure => simp [intOf]; omega
    · have h110 : i = 110 := by omega
      subst h110
      rcases hI.done hvH.out with ⟨rfl, hs⟩ | ⟨hc0, hs, hneg⟩
      · have hd := hI.digs
        have hsH := Lib.hid (show lsum d 110 = ((lval f).natAbs : Nat) by
          obtain ⟨b1, _⟩ := hd.sum
          omega)
        clear hs hI
        go_wp2
        go_ret2
        exact ⟨false, h, d, rfl, hL, hhH.out, hd, hsH.out, hB⟩
      · have hd := hI.digs
        have hsH := Lib.hid (And.intro hs hneg)
        have t0 : (c == 0) = false := by rw [beq_eq_false_iff_ne]; exact hc0
        clear hs hneg hI
        go_wp2
        go_loopw [8, 9, 10] (fun a b _ wr => ∃ (m : Int) (i : Nat) (e : Nat → Int), TurInv d e i m ∧ i ≤ 110 ∧ a = .int .i64 m ∧ b = .int .i64 (i : Int) ∧ LongAt wr h e ∧ Bel w wr) (fun _ b _ _ => (110 - intOf b).toNat)
        case atStart => exact ⟨1, 0, d, TurInv.start d, by omega, rfl, by simp, hL, hB⟩
        case round =>
          obtain ⟨m, i, e, hI, hi, rfl, rfl, hL, hB⟩ := hrel
          by_cases hlt : i < 110
          · obtain ⟨c2, z2⟩ := hL i hlt
            rw [hI.rest i (Nat.le_refl i)] at c2
            obtain ⟨v, hv⟩ : ∃ v : Int, v = d i := ⟨_, rfl⟩
            have bv := hd i hlt
            have hm := hI.m
            have hN := hI.next (v := 1073741823 - v + m) bv (by rw [hv])
            rw [← hv] at c2 bv
            have eA : bits .and .i64 (1073741823 - v + m) 1073741823 = (1073741823 - v + m) % 1073741824 := bits_30i _
            obtain ⟨D, hD⟩ : ∃ D, D = (1073741823 - v + m) % 1073741824 := ⟨_, rfl⟩
            rw [← hD] at eA hN
            have hNH := Lib.hid hN
            have hL2 := hL.put hlt D
            have hB2 := hB.setCell (p := ⟨h, i, none⟩) hhH.out (.int .i64 D)
            clear hN hI hv hD hL
            go_wp2
            go_roundw
            case rel => exact ⟨_, i + 1, _, hNH.out, by omega, rfl, by simp, hL2, hB2⟩
            case measure => simp [intOf]; omega
          · have h110 : i = 110 := by omega
            subst h110
            have hfin := Lib.hid (hI.done hsH.out.1 hsH.out.2 hvH.out)
            have hde := hI.digs
            clear hI
            go_wp2
            go_ret2
            exact ⟨true, h, e, rfl, hL, hhH.out, hde, hfin.out, hB⟩

set_option maxHeartbeats 2000000 in
theorem size_any (g : Nat) (f : Nat → Int) (w : World) (hf : LongAt w g f) (hg : g < w.heap.size) (hb : ∀ i, (f i).natAbs ≤ 2305843009213693952) (hv : (lval f).natAbs < bigP) :
    Calls Try.prog 18 #[.pointer (some ⟨g, 0, none⟩)] w fun r w' => ∃ k : Int, r = .returned (.int .i64 k) ∧ SizeIs (lval f).natAbs k ∧ -1200 ≤ k ∧ k ≤ 3000 ∧ Bel w w' := by
  have hval := value_any g f w hf hg hb hv
  clear hf hg hb hv
  go_enter Try.func18, Try.ntmps18
  go_wp2_with fail
  refine hval.mono ?_; rintro r w1 ⟨b, h, d, rfl, hL, hh, hd, hs, hB⟩
  have hsH := Lib.hid hs
  clear hs
  go_wp2
  go_loop [5, 6, 7] (fun a _ _ => ∃ i : Nat, i ≤ 110 ∧ (∀ j, i ≤ j → j < 110 → d j = 0) ∧ a = .int .i64 ((i : Int) - 1)) (fun a _ _ => (intOf a + 1).toNat)
  case atStart => exact ⟨110, by omega, fun j h1 h2 => by omega, rfl⟩
  case round =>
    obtain ⟨i, hi, hz, rfl⟩ := hrel
    by_cases hp : 0 < i
    · obtain ⟨k, hk⟩ : ∃ k, i = k + 1 := ⟨i - 1, by omega⟩
      subst hk
      have ek : ((k + 1 : Nat) : Int) - 1 = (k : Int) := by omega
      rw [ek]
      obtain ⟨c1, z1⟩ := hL k (by omega)
      obtain ⟨d0, d1⟩ := hd k (by omega)
      obtain ⟨v, hv⟩ : ∃ v : Int, v = d k := ⟨_, rfl⟩
      rw [← hv] at c1 d0 d1
      by_cases h0 : v = 0
      · have hzH := Lib.hid (show ∀ j, k ≤ j → j < 110 → d j = 0 from fun j h1 h2 => by
          by_cases c : j = k
          · rw [c, ← hv, h0]
          · exact hz j (by omega) h2)
        have t0 : (v == 0) = true := by rw [beq_iff_eq]; exact h0
        clear hz hv h0 ek
        go_wp2
        go_round
        case rel => exact ⟨k, by omega, hzH.out, by simp⟩
        case measure => simp [intOf]
      · have t0 : (v == 0) = false := by rw [beq_eq_false_iff_ne]; exact h0
        have hzH := Lib.hid hz
        have hvH := Lib.hid hv
        have v0 : 0 < v := by omega
        clear hz hv h0 ek
        go_wp2
        go_loop [6, 7] (fun a b => ∃ (j : Nat) (u : Int), u = v / 2 ^ j ∧ (j = 0 ∨ (2 : Int) ^ (j - 1) ≤ v) ∧ j ≤ 64 ∧ a = .int .i64 (30 * (k : Int) - 1200 + (j : Int)) ∧ b = .int .i64 u) (fun _ b => (intOf b).toNat)
        case atStart => exact ⟨0, v, by simp, Or.inl rfl, by omega, by simp, rfl⟩
        case round =>
          obtain ⟨j, u, hu, hj, hj64, rfl, rfl⟩ := hrel
          have hp2 := two_i j
          by_cases hu0 : 0 < u
          · have h1 : (2 : Int) ^ j ≤ v := by
              refine Classical.byContradiction fun hc => ?_
              have : v / 2 ^ j = 0 := Int.ediv_eq_zero_of_lt (by omega) (by omega)
              omega
            have hj63 : j < 64 := by
              refine Classical.byContradiction fun hc => ?_
              have h2 : (2 : Nat) ^ 40 ≤ 2 ^ j := Nat.pow_le_pow_right (by decide) (by omega)
              have h3 : (2 : Nat) ^ 40 = 1099511627776 := rfl
              have h4 := pw j
              omega
            have hN := Lib.hid (show u / 2 = v / 2 ^ (j + 1) by
              rw [hu, Int.pow_succ, Int.ediv_ediv_of_nonneg (by omega)])
            have hNj := Lib.hid (show (j + 1 = 0 ∨ (2 : Int) ^ (j + 1 - 1) ≤ v) from Or.inr h1)
            have et : u.tdiv 2 = u / 2 := Int.tdiv_eq_ediv_of_nonneg (by omega)
            have um : u ≤ v := by
              rw [hu]; exact Int.ediv_le_self _ (by omega)
            clear hu hj h1 hp2
            go_wp2
            go_round
            case rel => exact ⟨j + 1, u / 2, hN.out, hNj.out, by omega, by simp; omega, by simp⟩
            case measure => simp [intOf]; omega
          · have hj0 : j ≠ 0 := by
              intro hc; subst hc
              simp at hu; omega
            have h1 : (2 : Int) ^ (j - 1) ≤ v := by
              rcases hj with h | h
              · exact absurd h hj0
              · exact h
            have h2 : v < 2 ^ j := by
              refine Classical.byContradiction fun hc => ?_
              have : 1 ≤ v / 2 ^ j := Int.le_ediv_of_mul_le hp2 (by omega)
              omega
            have hS := Lib.hid (size_at hd (by omega) hzH.out hsH.out.symm (by omega) (hvH.out ▸ h1) (hvH.out ▸ h2))
            clear hu hj h1 h2 hp2
            go_wp2
            go_ret
            exact ⟨_, rfl, hS.out, by omega, by omega, hB⟩
    · have hi0 : i = 0 := by omega
      subst hi0
      have hS := Lib.hid (show SizeIs (lval f).natAbs (-1200) from Or.inl ⟨by
        have h5 := lsum_zeros (d := d) (i := 0) 110 (by omega) hz
        have h6 := hsH.out
        have h7 : lsum d 0 = 0 := rfl
        omega, rfl⟩)
      clear hz
      go_wp2
      go_ret
      exact ⟨-1200, rfl, hS.out, by omega, by omega, hB⟩
end Go.Proofs.Ytfpneojhhkfhpaa

/- Layer 4: what New, Add, Mul, Quo, Neg, Float are to answer (the program's own contracts prove these; the statements' walks take them). -/
namespace Go.Proofs.Ytfpneojhhkfhpaa
open Go.RowKit

/-- a neat number in words, its parts not too small or great -/
structure GoodPair (s e : Nat) (S E : Int) : Prop where
  s : Flt.Num s S
  e : Flt.Num e E
  neat : Flt.rn (S + E) = S
  gs : Flt.GoodN S
  ge : GoodW E
def AddErr (H L H' L' Z : Int) : Prop := (H = 0 → H' = 0 → Z = 0) ∧ ∀ T, 96 ≤ T → H.natAbs < 2 ^ T → H'.natAbs < 2 ^ T → (Z - (H + L + (H' + L'))).natAbs < 2 ^ (T - 96)
def MulErr (H L H' L' Z : Int) : Prop := (H = 0 ∨ H' = 0 → Z = 0) ∧ ∀ T U, 97 ≤ T + U → H.natAbs < 2 ^ T → H'.natAbs < 2 ^ U → (Z * 2 ^ Flt.uE - (H + L) * (H' + L')).natAbs < 2 ^ (T + U - 97)
def QuoErr (H L H' L' Z : Int) : Prop := (H = 0 → Z = 0) ∧ ∀ T, 95 ≤ T → H.natAbs < 2 ^ T → (Z * (H' + L') - (H + L) * 2 ^ Flt.uE).natAbs < 2 ^ (T - 95) * 2 ^ Flt.uE
def AddSaid : Prop := ∀ (x y u v : Nat) (H L H' L' : Int) (w : World), Flt.Num x H → Flt.Num y L → Flt.Num u H' → Flt.Num v L' → Flt.TameN H L → Flt.TameN H' L' →
  Calls Try.prog 17 #[.agg #[.float .f64 x, .float .f64 y], .agg #[.float .f64 u, .float .f64 v]] w fun r w' => ∃ s e S E, r = .returned (.agg #[.float .f64 s, .float .f64 e]) ∧ GoodPair s e S E ∧ AddErr H L H' L' (S + E) ∧ Bel w w'
def MulSaid : Prop := ∀ (x y u v : Nat) (H L H' L' : Int) (w : World), Flt.Num x H → Flt.Num y L → Flt.Num u H' → Flt.Num v L' → Flt.TameN H L → Flt.TameN H' L' →
  Calls Try.prog 20 #[.agg #[.float .f64 x, .float .f64 y], .agg #[.float .f64 u, .float .f64 v]] w fun r w' => ∃ s e S E, r = .returned (.agg #[.float .f64 s, .float .f64 e]) ∧ GoodPair s e S E ∧ MulErr H L H' L' (S + E) ∧ Bel w w'
/-- a quotient's second part may be too small -/
def QuoSaid : Prop := ∀ (x y u v : Nat) (H L H' L' : Int) (w : World), Flt.Num x H → Flt.Num y L → Flt.Num u H' → Flt.Num v L' → Flt.TameN H L → Flt.TameN H' L' → H' ≠ 0 →
  Calls Try.prog 22 #[.agg #[.float .f64 x, .float .f64 y], .agg #[.float .f64 u, .float .f64 v]] w fun r w' => ∃ s e S E, r = .returned (.agg #[.float .f64 s, .float .f64 e]) ∧ Flt.Num s S ∧ Flt.Num e E ∧ Flt.rn (S + E) = S ∧ Flt.GoodN S ∧ E.natAbs < 2 ^ 1500 ∧ QuoErr H L H' L' (S + E) ∧ Bel w w'
def NegSaid : Prop := ∀ (x y : Nat) (w : World), Calls Try.prog 12 #[.agg #[.float .f64 x, .float .f64 y]] w fun r w' => r = .returned (.agg #[.float .f64 (Op.negFloat .f64 x), .float .f64 (Op.negFloat .f64 y)]) ∧ Bel w w'
def FloatSaid : Prop := ∀ (x y : Nat) (H L : Int) (w : World), Flt.Num x H → Flt.Num y L → Flt.TameN H L → Calls Try.prog 24 #[.agg #[.float .f64 x, .float .f64 y]] w fun r w' => ∃ z, r = .returned (.float .f64 z) ∧ Flt.Num z H ∧ Bel w w'

theorem good_sum {S E : Int} (hs : GoodW S) (he : GoodW E) : (S + E).natAbs < 2 ^ Flt.top := by
  have key : ∀ {n : Int}, GoodW n → n.natAbs ≤ 2 ^ 1500 := by
    intro n hn
    rcases hn with rfl | ⟨_, h⟩
    · exact Nat.zero_le _
    · exact Nat.le_of_lt h
  have h1 := key hs
  have h2 := key he
  have h3 := Flt.two_add6 1500
  rw [show (6 + 1500 : Nat) = 1506 from rfl] at h3
  have h5 := Flt.two_lt' (a := 1506) (b := Flt.top) (by decide)
  have h0 := Flt.two_posN 1500
  obtain ⟨A, hA⟩ : ∃ A, A = 2 ^ 1500 := ⟨_, rfl⟩
  obtain ⟨C, hC⟩ : ∃ C, C = 2 ^ 1506 := ⟨_, rfl⟩
  obtain ⟨D, hD⟩ : ∃ D, D = 2 ^ Flt.top := ⟨_, rfl⟩
  rw [← hA] at h1 h2 h3 h0
  rw [← hC] at h3 h5
  rw [← hD] at h5 ⊢
  omega
theorem GoodPair.sum {s e : Nat} {S E : Int} (h : GoodPair s e S E) : (S + E).natAbs < 2 ^ Flt.top := good_sum (GoodN.w h.gs) h.ge
theorem num_same' {x : Nat} {a b : Int} (h : Flt.Num x a) (k : Flt.Num x b) : a = b := by
  rw [num_parts h, num_parts k]
theorem TameN.goods {H L : Int} (h : Flt.TameN H L) : Flt.GoodN H ∧ Flt.GoodN L := by
  rcases h with ⟨rfl, rfl⟩ | ⟨h1, h2, h3, h4⟩
  · exact ⟨Or.inl rfl, Or.inl rfl⟩
  · refine ⟨Or.inr ⟨Nat.le_trans (Flt.two_le (a := 600) (b := 930) (by decide)) h1, Nat.lt_of_lt_of_le h2 (Flt.two_le (a := 1220) (b := 1500) (by decide))⟩, ?_⟩
    rcases h4 with rfl | h4
    · exact Or.inl rfl
    · refine Or.inr ⟨Nat.le_trans (Flt.two_le (a := 600) (b := 674) (by decide)) h4, ?_⟩
      have hr := (Flt.rn_near (H + L)).rel
      rw [h3] at hr
      have h5 : L.natAbs ≤ H.natAbs := by omega
      exact Nat.lt_of_le_of_lt h5 (Nat.lt_of_lt_of_le h2 (Flt.two_le (a := 1220) (b := 1500) (by decide)))
/-- a word of a number that is not too small is normal -/
theorem normal_of {x : Nat} {n : Int} (hx : Flt.Num x n) (h : 2 ^ 600 ≤ n.natAbs) : 4503599627370496 ≤ x % 9223372036854775808 := by
  refine Classical.byContradiction fun hc => ?_
  have hp := num_parts hx
  obtain ⟨e1, e2⟩ := pE_zero (x := x) (by omega)
  rw [e1, show (-1074 + 1074 : Int).toNat = 0 from rfl, Int.pow_zero, Int.mul_one] at hp
  have ha := pM_abs x
  rw [← hp] at ha
  have h2 := Flt.two_le (a := 52) (b := 600) (by decide)
  rw [show (2 : Nat) ^ 52 = 4503599627370496 from rfl] at h2
  obtain ⟨A, hA⟩ : ∃ A, A = 2 ^ 600 := ⟨_, rfl⟩
  rw [← hA] at h h2
  omega
theorem exp_bound {x : Nat} {n : Int} (hx : Flt.Num x n) (h : 4503599627370496 ≤ x % 9223372036854775808) : n.natAbs < 2 ^ (x % 9223372036854775808 / 4503599627370496 + 52) ∧ 2 ^ (x % 9223372036854775808 / 4503599627370496 + 51) ≤ n.natAbs := by
  have hp := num_parts hx
  obtain ⟨e1, e2⟩ := pE_pos (x := x) (by omega)
  have hA := pA_lt x
  obtain ⟨E, hE⟩ : ∃ E, E = x % 9223372036854775808 / 4503599627370496 := ⟨_, rfl⟩
  rw [← hE] at e1 ⊢
  have e3 : (pE x + 1074).toNat = E - 1 := by omega
  have hab : n.natAbs = pA x * 2 ^ (E - 1) := by rw [hp, e3, Int.natAbs_mul, Flt.natAbs_two, pM_abs]
  rw [hab]
  constructor
  · rw [show E + 52 = 53 + (E - 1) from by omega, Nat.pow_add]
    exact Nat.mul_lt_mul_of_pos_right (Nat.lt_of_lt_of_le hA (by decide)) (Flt.two_posN _)
  · rw [show E + 51 = 52 + (E - 1) from by omega, Nat.pow_add]
    exact Nat.mul_le_mul_right _ (by rw [show (2 : Nat) ^ 52 = 4503599627370496 from rfl]; omega)
theorem top4 (x : Nat) (H L : Int) (w : World) (hx : Flt.Num x H) (hT : Flt.TameN H L) :
    Calls Try.prog 19 #[.float .f64 x] w fun e w' => ∃ (k : Int) (T : Nat), e = .returned (.int .i64 k) ∧ ((H = 0 ∧ k = -1200) ∨ (k = (T : Int) - 1074 ∧ H.natAbs < 2 ^ T ∧ 924 ≤ T ∧ T ≤ 1230)) ∧ -1200 ≤ k ∧ k ≤ 200 ∧ w = w' := by
  rcases hT with ⟨rfl, _⟩ | ⟨h1, h2, _, _⟩
  · exact (topf_zero x w hx).mono fun e w' ⟨h, k⟩ => ⟨-1200, 0, h, Or.inl ⟨rfl, rfl⟩, by decide, by decide, k⟩
  · have hn := normal_of hx (Nat.le_trans (Flt.two_le (a := 600) (b := 930) (by decide)) h1)
    obtain ⟨b1, b2⟩ := exp_bound hx hn
    have c1 := Flt.two_lt (Nat.lt_of_le_of_lt h1 b1)
    have c2 := Flt.two_lt (Nat.lt_of_le_of_lt b2 h2)
    refine (topf_any x H w hx hn).mono fun e w' ⟨h, k⟩ => ?_
    obtain ⟨E, hE⟩ : ∃ E, E = x % 9223372036854775808 / 4503599627370496 := ⟨_, rfl⟩
    rw [← hE] at h b1 c1 c2
    exact ⟨_, E + 52, h, Or.inr ⟨by omega, b1, by omega, by omega⟩, by omega, by omega, k⟩
end Go.Proofs.Ytfpneojhhkfhpaa

/- Layer 4's statements: from the errors that are asked to the sizes that are compared. Over whole numbers. -/
namespace Go.Proofs.Ytfpneojhhkfhpaa
open Go.RowKit

/-- the top of a tame number's first part -/
def TopOf (H k : Int) : Prop := ∃ T : Nat, (H = 0 ∧ k = -1200) ∨ (k = (T : Int) - 1074 ∧ H.natAbs < 2 ^ T ∧ 924 ≤ T ∧ T ≤ 1230)
theorem size_zero {k : Int} (h : SizeIs 0 k) : k = -1200 := by
  rcases h with ⟨_, h⟩ | ⟨n, _, _, h, _⟩
  · exact h
  · have := Flt.two_posN (n - 1)
    omega
theorem size_mul {D k : Int} {n m : Nat} (h : SizeIs (D * 2 ^ 126).natAbs k) (hD : D.natAbs < 2 ^ n) (hm : m = n + 126) : k ≤ (m : Int) - 1200 := by
  refine h.le ?_
  rw [Int.natAbs_mul, Flt.natAbs_two, hm, Nat.pow_add]
  exact Nat.mul_lt_mul_of_pos_right hD (Flt.two_posN 126)
theorem big_of {D : Int} {n : Nat} (hD : D.natAbs < 2 ^ n) (hn : n ≤ 2000) : (D * 2 ^ 126).natAbs < bigP := by
  rw [Int.natAbs_mul, Flt.natAbs_two, bigP_eq]
  refine Nat.lt_of_lt_of_le (Nat.mul_lt_mul_of_pos_right hD (Flt.two_posN 126)) ?_
  rw [← Nat.pow_add]
  exact Flt.two_le (show n + 126 ≤ bigE from Nat.le_trans (Nat.add_le_add_right hn 126) (by decide))
theorem TameN.bound {H L : Int} (h : Flt.TameN H L) : H.natAbs < 2 ^ 1230 := by
  rcases h with ⟨h0, _⟩ | ⟨_, h, _⟩
  · rw [h0]; exact Flt.two_posN 1230
  · exact Nat.lt_of_lt_of_le h (Flt.two_le (a := 1220) (b := 1230) (by decide))
theorem TameN.zero {H L : Int} (h : Flt.TameN H L) (h0 : H = 0) : L = 0 := by
  rcases h with ⟨_, h⟩ | ⟨h, _⟩
  · exact h
  · rw [h0] at h
    have := Flt.two_posN 930
    have e : (0 : Int).natAbs = 0 := rfl
    omega
theorem adds_big {H L H' L' Z : Int} (hT : Flt.TameN H L) (hT' : Flt.TameN H' L') (he : AddErr H L H' L' Z) : ((Z - (H + L + (H' + L'))) * 2 ^ 126).natAbs < bigP :=
  big_of (he.2 1230 (by decide) (TameN.bound hT) (TameN.bound hT')) (by decide)
theorem adds_fin {H L H' L' Z k k1 k2 : Int} (hT : Flt.TameN H L) (hT' : Flt.TameN H' L') (he : AddErr H L H' L' Z) (h1 : TopOf H k1) (h2 : TopOf H' k2)
    (hs : SizeIs ((Z - (H + L + (H' + L'))) * 2 ^ 126).natAbs k) : k ≤ max (-1200) (max k1 k2 - 96) := by
  obtain ⟨T1, h1⟩ := h1
  obtain ⟨T2, h2⟩ := h2
  have key : ∀ T : Nat, 924 ≤ T → H.natAbs < 2 ^ T → H'.natAbs < 2 ^ T → k ≤ (T : Int) - 1074 - 96 := fun T hT a b => by
    have := size_mul hs (he.2 T (by omega) a b) (m := T + 30) (by omega)
    omega
  rcases h1 with ⟨rfl, rfl⟩ | ⟨rfl, a1, a2, a3⟩ <;> rcases h2 with ⟨rfl, rfl⟩ | ⟨rfl, b1, b2, b3⟩
  · rw [TameN.zero hT rfl, TameN.zero hT' rfl, he.1 rfl rfl] at hs
    rw [size_zero hs]
    omega
  · have := key T2 b2 (Flt.two_posN _) b1
    omega
  · have := key T1 a2 a1 (Flt.two_posN _)
    omega
  · by_cases c : T1 ≤ T2
    · have := key T2 b2 (Nat.lt_of_lt_of_le a1 (Flt.two_le c)) b1
      omega
    · have := key T1 a2 a1 (Nat.lt_of_lt_of_le b1 (Flt.two_le (by omega)))
      omega
theorem top_of (x : Nat) (H L : Int) (w : World) (hx : Flt.Num x H) (hT : Flt.TameN H L) :
    Calls Try.prog 19 #[.float .f64 x] w fun e w' => ∃ k : Int, e = .returned (.int .i64 k) ∧ TopOf H k ∧ -1200 ≤ k ∧ k ≤ 200 ∧ w = w' :=
  (top4 x H L w hx hT).mono fun _ _ ⟨k, T, h1, h2, h3, h4, h5⟩ => ⟨k, h1, ⟨T, h2⟩, h3, h4, h5⟩
/-- what is over, times 2^uE, below a power of two -/
theorem lt_uE {D W : Int} {n : Nat} (h : D * 2 ^ Flt.uE = W) (hW : W.natAbs < 2 ^ (n + Flt.uE)) : D.natAbs < 2 ^ n := by
  rw [← h, Int.natAbs_mul, Flt.natAbs_two, Nat.pow_add] at hW
  exact Nat.lt_of_mul_lt_mul_right hW
theorem zero_uE {D W : Int} (h : D * 2 ^ Flt.uE = W) (hW : W = 0) : D = 0 := by
  rw [hW] at h
  rcases Int.mul_eq_zero.1 h with h | h
  · exact h
  · exact absurd h (Int.ne_of_gt (Flt.two_pos _))
theorem uE_eq : Flt.uE = 1074 := by decide
theorem muls_lt {H L H' L' Z D : Int} (he : MulErr H L H' L' Z) (hD : D * 2 ^ Flt.uE = Z * 2 ^ Flt.uE - (H + L) * (H' + L')) {T U : Nat} (hTU : 1171 ≤ T + U) (h1 : H.natAbs < 2 ^ T) (h2 : H'.natAbs < 2 ^ U) : D.natAbs < 2 ^ (T + U - 1171) := by
  refine lt_uE hD ?_
  have := he.2 T U (by omega) h1 h2
  rw [show T + U - 1171 + Flt.uE = T + U - 97 from by rw [uE_eq]; omega]
  exact this
theorem muls_big {H L H' L' Z D : Int} (hT : Flt.TameN H L) (hT' : Flt.TameN H' L') (he : MulErr H L H' L' Z) (hD : D * 2 ^ Flt.uE = Z * 2 ^ Flt.uE - (H + L) * (H' + L')) : (D * 2 ^ 126).natAbs < bigP :=
  big_of (muls_lt he hD (T := 1230) (U := 1230) (by decide) (TameN.bound hT) (TameN.bound hT')) (by decide)
theorem muls_fin {H L H' L' Z D k k1 k2 : Int} (hT : Flt.TameN H L) (hT' : Flt.TameN H' L') (he : MulErr H L H' L' Z) (hD : D * 2 ^ Flt.uE = Z * 2 ^ Flt.uE - (H + L) * (H' + L')) (h1 : TopOf H k1) (h2 : TopOf H' k2)
    (hs : SizeIs (D * 2 ^ 126).natAbs k) : k ≤ max (-1200) (k1 + k2 - 97) := by
  obtain ⟨T1, h1⟩ := h1
  obtain ⟨T2, h2⟩ := h2
  have zz : H = 0 ∨ H' = 0 → k = -1200 := fun h => by
    have h0 : (H + L) * (H' + L') = 0 := by
      rcases h with h | h
      · rw [TameN.zero hT h, h]; simp
      · rw [TameN.zero hT' h, h]; simp
    have hz := zero_uE hD (by rw [he.1 h, h0]; simp)
    rw [hz] at hs
    exact size_zero (by simpa using hs)
  rcases h1 with ⟨r, _⟩ | ⟨rfl, a1, a2, a3⟩
  · rw [zz (Or.inl r)]; omega
  · rcases h2 with ⟨r, _⟩ | ⟨rfl, b1, b2, b3⟩
    · rw [zz (Or.inr r)]; omega
    · have := size_mul hs (muls_lt he hD (T := T1) (U := T2) (by omega) a1 b1) (m := T1 + T2 - 1045) (by omega)
      omega
theorem quos_lt {H L H' L' Z D : Int} (he : QuoErr H L H' L' Z) (hD : D * 2 ^ Flt.uE = Z * (H' + L') - (H + L) * 2 ^ Flt.uE) {T : Nat} (hT : 95 ≤ T) (h1 : H.natAbs < 2 ^ T) : D.natAbs < 2 ^ (T - 95) := by
  refine lt_uE hD ?_
  rw [Nat.pow_add]
  exact he.2 T hT h1
theorem quos_big {H L H' L' Z D : Int} (hT : Flt.TameN H L) (he : QuoErr H L H' L' Z) (hD : D * 2 ^ Flt.uE = Z * (H' + L') - (H + L) * 2 ^ Flt.uE) : (D * 2 ^ 126).natAbs < bigP :=
  big_of (quos_lt he hD (T := 1230) (by decide) (TameN.bound hT)) (by decide)
theorem quos_fin {H L H' L' Z D k k1 : Int} (hT : Flt.TameN H L) (he : QuoErr H L H' L' Z) (hD : D * 2 ^ Flt.uE = Z * (H' + L') - (H + L) * 2 ^ Flt.uE) (h1 : TopOf H k1) (hs : SizeIs (D * 2 ^ 126).natAbs k) : k ≤ max (-1200) (k1 - 95) := by
  obtain ⟨T1, h1⟩ := h1
  rcases h1 with ⟨r, _⟩ | ⟨rfl, a1, a2, a3⟩
  · have h0 : (H + L) * 2 ^ Flt.uE = 0 := by rw [TameN.zero hT r, r]; simp
    have hz := zero_uE hD (by rw [he.1 r, h0]; simp)
    rw [hz] at hs
    have hk : k = -1200 := size_zero (by simpa using hs)
    rw [hk]
    omega
  · have := size_mul hs (quos_lt he hD (T := T1) (by omega) a1) (m := T1 + 31) (by omega)
    omega
theorem num_same {x : Nat} {a b : Int} (h : Flt.Num x a) (k : Flt.Num x b) : a = b := by
  rw [num_parts h, num_parts k]
/-- the two tops of a statement, in one -/
theorem tops_of (x u : Nat) (H L H' L' : Int) (hx : Flt.Num x H) (hu : Flt.Num u H') (hT : Flt.TameN H L) (hT' : Flt.TameN H' L') (z : Nat) (w : World) (hz : z = x ∨ z = u) :
    Calls Try.prog 19 #[.float .f64 z] w fun e w' => ∃ k : Int, e = .returned (.int .i64 k) ∧ (z = x → TopOf H k) ∧ (z = u → TopOf H' k) ∧ -1200 ≤ k ∧ k ≤ 200 ∧ w = w' := by
  by_cases c : z = x
  · subst c
    refine (top_of z H L w hx hT).mono ?_
    rintro e w' ⟨k, h1, h2, h3, h4, h5⟩
    refine ⟨k, h1, fun _ => h2, ?_, h3, h4, h5⟩
    rintro rfl
    rw [← num_same hx hu]
    exact h2
  · have h : z = u := hz.resolve_left c
    subst h
    refine (top_of z H' L' w hu hT').mono ?_
    rintro e w' ⟨k, h1, h2, h3, h4, h5⟩
    exact ⟨k, h1, fun h => absurd h c, fun _ => h2, h3, h4, h5⟩
theorem v_420 : Flt.vI 2715670575304409088 = 2 ^ 654 := by
  rw [Flt.v_mid (by decide) (by decide)]
  have e1 : ((4503599627370496 + 2715670575304409088 % 4503599627370496 : Nat) : Int) = 2 ^ 52 := by decide
  have e2 : 2715670575304409088 / 4503599627370496 - 1 = 602 := by decide
  rw [e1, e2]
  have := Int.pow_add 2 52 602
  rw [show (52 + 602 : Nat) = 654 from rfl] at this
  exact this.symm
/-- from 2^-420 on -/
theorem cut_420 {y : Nat} {k : Nat} (hy : Flt.Num y (k : Int)) (h63 : y < 9223372036854775808) (h : 2715670575304409088 ≤ y) : 2 ^ 654 ≤ k := by
  have hf := hy.fin
  have hv := hy.val
  have hlt := hy.lt
  have e64 : (2 : Nat) ^ 64 = 18446744073709551616 := rfl
  have hf2 : y < 9218868437227405312 := by omega
  have h4 := v_420
  have pk := pw 654
  obtain ⟨A, hA⟩ : ∃ A, A = (2 : Int) ^ 654 := ⟨_, rfl⟩
  rw [← hA] at h4 pk
  obtain ⟨B, hB⟩ : ∃ B, B = (2 : Nat) ^ 654 := ⟨_, rfl⟩
  rw [← hB] at pk ⊢
  by_cases c : y = 2715670575304409088
  · rw [c] at hv; omega
  · have := Flt.v_lt (x := 2715670575304409088) (y := y) (by omega) hf2
    omega
theorem num_zero : Flt.Num 0 0 := by
  have h := Flt.num_of (x := 0) (by decide) (by decide)
  rwa [Flt.v_small (by decide)] at h
/-- a word of zero -/
theorem zero_word {x : Nat} {n : Int} (h : Flt.Num x n) : n = 0 ↔ x % 9223372036854775808 = 0 := by
  constructor
  · rintro rfl
    refine Classical.byContradiction fun hc => ?_
    have h1 := ord_nz h.lt h.fin (by omega)
    rw [ord_same h num_zero] at h1
    exact absurd h1 (by decide)
  · intro hz
    have h2 : Flt.Num (x % 9223372036854775808) ((n.natAbs : Nat) : Int) := num_abs h
    rw [hz] at h2
    have := num_same h2 num_zero
    omega
theorem tame_word {x : Nat} {H : Int} (hx : Flt.Num x H) (h0 : H ≠ 0) : (FloatKind.f64.format.order x 0 == some Ordering.eq) = false := by
  refine ord_nz hx.lt hx.fin ?_
  have := mt (zero_word hx).2 h0
  omega
theorem tame_word2 {x : Nat} {H : Int} (hx : Flt.Num x H) (h0 : H ≠ 0) : FloatKind.f64.format.order x 0 = some Ordering.lt ∨ FloatKind.f64.format.order x 0 = some Ordering.gt := by
  have h1 : FloatKind.f64.format.order x 0 = some (compare H 0) := Flt.order_num hx num_zero
  rw [h1]
  rcases Int.lt_trichotomy H 0 with h | h | h
  · exact Or.inl (by rw [show compare H 0 = .lt from by simp [compare, compareOfLessAndEq, h]])
  · exact absurd h h0
  · exact Or.inr (by rw [show compare H 0 = .gt from by simp [compare, compareOfLessAndEq, h0]; omega])
theorem quo_sum {S E : Int} (hS : Flt.GoodN S) (hE : E.natAbs < 2 ^ 1500) : (S + E).natAbs < 2 ^ Flt.top := by
  have h1 : S.natAbs ≤ 2 ^ 1500 := by
    rcases hS with rfl | ⟨_, h⟩
    · exact Nat.zero_le _
    · exact Nat.le_of_lt h
  have h3 := Flt.two_add6 1500
  rw [show (6 + 1500 : Nat) = 1506 from rfl] at h3
  have h5 := Flt.two_lt' (a := 1506) (b := Flt.top) (by decide)
  obtain ⟨A, hA⟩ : ∃ A, A = 2 ^ 1500 := ⟨_, rfl⟩
  obtain ⟨C, hC⟩ : ∃ C, C = 2 ^ 1506 := ⟨_, rfl⟩
  obtain ⟨D, hD⟩ : ∃ D, D = 2 ^ Flt.top := ⟨_, rfl⟩
  rw [← hA] at h1 hE h3
  rw [← hC] at h3 h5
  rw [← hD] at h5 ⊢
  omega
/-- a quotient of zero has no second part -/
theorem quo_zero {H L H' L' S E : Int} (he : QuoErr H L H' L' (S + E)) (hn : Flt.rn (S + E) = S) (h0 : H = 0) : E = 0 := by
  have hz := he.1 h0
  rw [hz, Flt.rn_zero] at hn
  omega
/-- the second part of a quotient that is looked at -/
theorem quo_good {e : Nat} {E : Int} (ne : Flt.Num e E) (hE : E.natAbs < 2 ^ 1500) (h : e % 9223372036854775808 = 0 ∨ 2715670575304409088 ≤ e % 9223372036854775808) : Flt.GoodN E := by
  rcases h with h | h
  · exact Or.inl ((zero_word ne).2 h)
  · exact Or.inr ⟨Nat.le_trans (Flt.two_le (a := 600) (b := 654) (by decide)) (cut_420 (num_abs ne) (by omega) h), hE⟩
end Go.Proofs.Ytfpneojhhkfhpaa

/- Two numbers of two floats compared. -/
namespace Go.Proofs.Ytfpneojhhkfhpaa
open Go.RowKit

theorem run_equalIn_float {P : Program} (w : World) (d : Nat) (t : TypeId) (k' : FloatKind) (a b : Nat) (h : P.underlying t = some (.float k')) : (Op.equalIn (d + 1) t (.float .f64 a) (.float .f64 b)).run P w = .ok (FloatKind.f64.format.order a b == some .eq) w := by
  simp [Op.equalIn, run_underlying h, Op.floatEq]
theorem dd_fields : Try.prog.underlying 25 = some (.struct (Try.prog.fieldsOf 25)) := by kernel_rfl
theorem dd_held : Try.prog.stoodInHeld 25 = false := by kernel_rfl
theorem dd_list : (Try.prog.fieldsOf 25).toList.map (fun f => (f.name, f.type, f.offset)) = [("Hi", 22, 0), ("Lo", 22, 1)] := by kernel_rfl
theorem part_0 (a b : Nat) (w : World) : (part 22 #[.float .f64 a, .float .f64 b] 0).run Try.prog w = .ok (.float .f64 a) w := by kernel_rfl
theorem part_1 (a b : Nat) (w : World) : (part 22 #[.float .f64 a, .float .f64 b] 1).run Try.prog w = .ok (.float .f64 b) w := by kernel_rfl
theorem run_neq_dd {a b c d : Nat} (h1 : FloatKind.f64.format.order a c = some .eq) (h2 : FloatKind.f64.format.order b d = some .eq) (w : World) :
    (binOp .neq 25 (.agg #[.float .f64 a, .float .f64 b]) (.agg #[.float .f64 c, .float .f64 d])).run Try.prog w = .ok (.bool false) w := by
  rw [run_neq_struct, run_equalIn_agg w 9999 _ _ _ dd_fields dd_held]
  obtain ⟨l, hl⟩ : ∃ l, l = (Try.prog.fieldsOf 25).toList := ⟨_, rfl⟩
  have hm := dd_list
  rw [← hl] at hm ⊢
  match l, hm with
  | [f0, f1], hm =>
    simp only [List.map_cons, List.map_nil, List.cons.injEq, Prod.mk.injEq, and_true] at hm
    obtain ⟨⟨n0, t0, o0⟩, n1, t1, o1⟩ := hm
    simp [Op.eqFields, n0, n1, t0, t1, o0, o1]
    have q := fun (a b : Nat) (w : World) => run_equalIn_float (P := Try.prog) w 9998 22 .f64 a b Try.underlying22
    simp [part_0, part_1, q, h1, h2]
end Go.Proofs.Ytfpneojhhkfhpaa

/- DDMakes' walk; what New, Neg and the wakes answer are its hypotheses. -/
namespace Go.Proofs.Ytfpneojhhkfhpaa
open Go.RowKit

theorem long_zero (w : World) : (zeroValue 33).run Try.prog w = .ok (.agg (Array.replicate 110 (.int .i64 0))) w := by kernel_rfl
theorem long_new (w : World) (t : TypeId) : LongAt (w.alloc (.cells (Array.replicate 110 (.int .i64 0)) t)) w.heap.size (fun _ => 0) := by
  intro i hi
  refine ⟨?_, ?_⟩
  · rw [World.cell?_alloc_new, Array.getElem?_replicate, if_pos hi]
  · exact frozen_of_row _ _ i _ t (heap_alloc_new w _)
theorem lval_zero : lval (fun _ => 0) = 0 := by
  rw [lval_eq]
  have : ∀ n, lsum (fun _ => 0) n = 0 := fun n => by
    induction n with
    | zero => rfl
    | succ n ih => show lsum _ n + 0 * _ = 0; rw [ih]; simp
  exact this 110
def WakesSaid : Prop := ∀ w, Calls Try.prog 10 #[] w fun e w' => e = .returned (.bool true) ∧ Bel w w'
theorem pow_mul_ge (e : Nat) {k : Nat} (hk : 1 ≤ k) : 2 ^ e ≤ 2 ^ e * k := Nat.le_mul_of_pos_right _ hk
/-- two floats of 2^-400 on: their sum's parts -/
theorem make_pair {x y s e : Nat} {a b : Int} (hx : PartN 674 1474 x a) (hy : PartN 674 1474 y b) (hs : Flt.Num s (Flt.rn (a + b))) (he : Flt.Num e (a + b - Flt.rn (a + b))) : GoodPair s e (Flt.rn (a + b)) (a + b - Flt.rn (a + b)) := by
  have dv : ∀ {x : Nat} {a : Int}, PartN 674 1474 x a → (2 : Int) ^ 622 ∣ a := by
    intro x a h
    rcases h.or with ⟨h0, _⟩ | ⟨h1, _, _⟩
    · rw [h0]; exact Int.dvd_zero _
    · exact Flt.dvd_of_ge (e := 622) h.num.fl (by rw [show (52 + 622 : Nat) = 674 from rfl]; exact h1)
  have up : ∀ {x : Nat} {a : Int}, PartN 674 1474 x a → a.natAbs ≤ 2 ^ 1474 := by
    intro x a h
    rcases h.or with ⟨h0, _⟩ | ⟨_, h2, _⟩
    · rw [h0]; exact Nat.zero_le _
    · exact Nat.le_of_lt h2
  have d1 := Int.dvd_add (dv hx) (dv hy)
  have hn := Flt.rn_near (a + b)
  have d2 := hn.dvd d1
  have d3 := Int.dvd_sub d1 d2
  have u1 := up hx
  have u2 := up hy
  have u3 := Flt.near_le2 hn
  have e6 := Flt.two_add6 1474
  rw [show (6 + 1474 : Nat) = 1480 from rfl] at e6
  have e7 := Flt.two_lt' (a := 1480) (b := 1500) (by decide)
  have good : ∀ {n : Int}, (2 : Int) ^ 622 ∣ n → n.natAbs ≤ 2 ^ 1480 → Flt.GoodN n := by
    intro n hd hn
    by_cases h0 : n = 0
    · exact Or.inl h0
    · refine Or.inr ⟨?_, Nat.lt_of_le_of_lt hn e7⟩
      obtain ⟨k, hk⟩ := hd
      have h2 : n.natAbs = 2 ^ 622 * k.natAbs := by rw [hk, Int.natAbs_mul, Flt.natAbs_two]
      have hk0 : k ≠ 0 := by intro hc; rw [hc, Int.mul_zero] at hk; exact h0 hk
      have h3 := pow_mul_ge 622 (k := k.natAbs) (by omega)
      rw [← h2] at h3
      exact Nat.le_trans (Flt.two_le (a := 600) (b := 622) (by decide)) h3
  have g1 := good d2
  have g2 := good d3
  have b1 : (Flt.rn (a + b)).natAbs ≤ 2 ^ 1480 ∧ (a + b - Flt.rn (a + b)).natAbs ≤ 2 ^ 1480 := by
    obtain ⟨A, hA⟩ : ∃ A, A = 2 ^ 1474 := ⟨_, rfl⟩
    obtain ⟨B, hB⟩ : ∃ B, B = 2 ^ 1480 := ⟨_, rfl⟩
    obtain ⟨r, hr⟩ : ∃ r, r = Flt.rn (a + b) := ⟨_, rfl⟩
    rw [← hA] at u1 u2 e6
    rw [← hB] at e6
    rw [← hr] at u3
    rw [← hB, ← hr]
    omega
  exact ⟨hs, he, by rw [show Flt.rn (a + b) + (a + b - Flt.rn (a + b)) = a + b from by omega], g1 b1.1, GoodN.w (g2 b1.2)⟩
set_option maxHeartbeats 4000000 in
theorem makes0 (hnew : NewSaid) (hneg : NegSaid) (hwk : WakesSaid) (a0 a1 : Int) (w : World) :
    Calls Try.prog 3 #[.int .i64 a0, .int .i64 a1] w fun e w' => e = .returned (.bool true) ∧ Bel w w' := by
  have p0 := fun w => part_any a0 (-400) 800 w (by decide) (by decide) (by decide) (by decide)
  have p1 := fun w => part_any a1 (-400) 800 w (by decide) (by decide) (by decide) (by decide)
  rw [show (1074 + (-400 : Int)).toNat = 674 from rfl, show (1074 + (-400 : Int) + 800).toNat = 1474 from rfl] at p0 p1
  have sf := run_store_float Try.prog
  go_enter Try.func3, Try.ntmps3
  go_wp2_with fail
  refine (p0 _).mono ?_; rintro r w1 ⟨x, a, rfl, hx, rfl⟩
  go_wp2_with fail
  refine (p1 _).mono ?_; rintro r w1 ⟨y, b, rfl, hy, rfl⟩
  have up : ∀ {x : Nat} {a : Int}, PartN 674 1474 x a → a.natAbs ≤ 2 ^ 1474 := by
    intro x a h
    rcases h.or with ⟨h0, _⟩ | ⟨_, h2, _⟩
    · rw [h0]; exact Nat.zero_le _
    · exact Nat.le_of_lt h2
  have hN := fun w => hnew x y a b w hx.num hy.num (up hx) (up hy)
  clear up
  go_wp2_with fail
  refine (hN _).mono ?_; rintro r w1 ⟨s, e, rfl, ns, ne, hB1⟩
  have hG := make_pair hx hy ns ne
  obtain ⟨S, hS⟩ : ∃ S, S = Flt.rn (a + b) := ⟨_, rfl⟩
  obtain ⟨E, hE⟩ : ∃ E, E = a + b - Flt.rn (a + b) := ⟨_, rfl⟩
  rw [← hE, ← hS] at hG
  have hsum : S + E = a + b := by omega
  clear ns ne hE hS
  go_upto_region 3 with fail
  obtain ⟨w2, hw2⟩ : ∃ w2, w2 = w1.alloc (.cells #[.float .f64 s, .float .f64 e] 25) := ⟨_, rfl⟩
  have hB2 : Bel w w2 := by rw [hw2]; exact hB1.alloc _
  have hT2 : Two w2 w1.heap.size s e := by rw [hw2]; exact Two.new w1 s e _
  have hq2 : w1.heap.size < w2.heap.size := by rw [hw2]; simp
  rw [← hw2]
  obtain ⟨Q, hQ⟩ : ∃ Q, Q = w1.heap.size := ⟨_, rfl⟩
  have hQw : w.heap.size ≤ Q := by rw [hQ]; exact hB1.size
  rw [← hQ] at hT2 hq2 ⊢
  clear hw2 hQ hB1
  obtain ⟨hc0, hc1, _, _⟩ := hT2
  have hf := fun w => fine_any s e S E w hG.s hG.e hG.sum hG.neat
  have hn := fun w => hneg s e w
  have hBd : Bel w w2.drew := hB2.drew
  have oS := ord_same (num_neg hG.s) (num_neg hG.s)
  have oE := ord_same (num_neg hG.e) (num_neg hG.e)
  have qE := fun w => run_neq_dd oS oE w
  have hGH := Lib.hid hG
  have hxH := Lib.hid hx
  have hyH := Lib.hid hy
  clear hG hx hy
  have m1 := fun w => run_neg (P := Try.prog) s w
  have m2 := fun w => run_neg (P := Try.prog) e w
  go_region_held3 (fun w' => w'.cell? ⟨Q, 0, none⟩ = some (.float .f64 s) ∧ w'.cell? ⟨Q, 1, none⟩ = some (.float .f64 e) ∧ Q < w'.heap.size ∧ Bel w w') (first | exact ⟨hc0, hc1, hq2, hBd⟩ | (obtain ⟨k0, k1, k2, k3⟩ := ‹_ ∧ _ ∧ Q < _ ∧ Bel w _›; exact ⟨(g.cell k2).trans k0, (g.cell k2).trans k1, Nat.lt_of_lt_of_le k2 g.size, k3.trans g⟩))
    (first
      | (go_at_call 10; refine (hwk _).mono ?_; rintro r w3 ⟨rfl, g⟩)
      | (go_at_call 11; refine (hf _).mono ?_; rintro r w3 ⟨rfl, g⟩)
      | (go_at_call 12; refine (hn _).mono ?_; rintro r w3 ⟨rfl, g⟩))
  obtain ⟨k0, k1, k2, k3⟩ := ‹_ ∧ _ ∧ Q < _ ∧ Bel w _›
  rename World => w5
  have hz := long_zero
  obtain ⟨g, hg⟩ : ∃ g, g = w5.heap.size := ⟨_, rfl⟩
  have hgw : w.heap.size ≤ g := by rw [hg]; exact k3.size
  have hL0 := long_new w5 33
  have hB6 : Bel w5 (w5.alloc (Obj.cells (Array.replicate 110 (Value.int IntKind.i64 0)) 33)) := (Bel.refl w5).alloc _
  obtain ⟨w6, hw6⟩ : ∃ w6, w6 = w5.alloc (Obj.cells (Array.replicate 110 (Value.int IntKind.i64 0)) 33) := ⟨_, rfl⟩
  have hs6 : g < w6.heap.size := by rw [hw6, hg]; simp
  rw [← hw6] at hL0 hB6
  rw [← hg] at hL0
  have c0 := (hB6.cell (p := ⟨Q, 0, none⟩) k2).trans k0
  have c1 := (hB6.cell (p := ⟨Q, 1, none⟩) k2).trans k1
  have hQg : Q ≠ g := by omega
  have hQ6 : Q < w6.heap.size := Nat.lt_of_lt_of_le k2 hB6.size
  have hgH := Lib.hid (And.intro hg hw6)
  have kB := k3.trans hB6
  have P1 := fun f w => put_sgn _ 1 sgn_pos g f s e S E w hGH.out.s hGH.out.e (GoodN.w hGH.out.gs) hGH.out.ge
  have P2 := fun f w hf => add_any g f _ (-a) w (num_neg hxH.out.num) hf
  have P3 := fun f w hf => add_any g f _ (-b) w (num_neg hyH.out.num) hf
  have q1 := fun w => run_neg (P := Try.prog) x w
  have q2 := fun w => run_neg (P := Try.prog) y w
  have hsumH := Lib.hid hsum
  clear hg hw6 hsum k0 k1 k2 k3 hn hf hc0 hc1 hq2 hB2 hBd hB6 oS oE qE
  go_wp2_with fail
  rw [← hgH.out.1, ← hgH.out.2]
  refine (P1 (fun _ => 0) _ hL0 hs6 (fun _ => by simp)).mono ?_; rintro r w7 ⟨rfl, f1, l1, v1, d1, e1⟩
  have r1 : ∀ j, (f1 j).natAbs ≤ 6442450944 := fun j => by have := d1 j; simpa using this
  go_wp2_with fail
  refine (P2 f1 _ l1 (fun j => by have := r1 j; omega)).mono ?_; rintro r w8 ⟨rfl, f2, l2, v2, d2, e2⟩
  have r2 : ∀ j, (f2 j).natAbs ≤ 9663676416 := fun j => by have := d2 j; have := r1 j; omega
  go_wp2_with fail
  refine (P3 f2 _ l2 (fun j => by have := r2 j; omega)).mono ?_; rintro r w9 ⟨rfl, f3, l3, v3, d3, e3⟩
  have r3 : ∀ j, (f3 j).natAbs ≤ 12884901888 := fun j => by have := d3 j; have := r2 j; omega
  have hzero : lval f3 = 0 := by
    rw [v3, v2, v1, lval_zero, Int.zero_add, Int.one_mul, ← Int.add_mul, ← Int.add_mul]
    have := hsumH.out
    have e0 : S + E + -a + -b = 0 := by omega
    rw [e0, Int.zero_mul]
  have hzeroH := Lib.hid hzero
  clear v1 v2 v3 hzero
  go_wp2_with fail
  refine (zero_any g f3 _ l3 (fun j => by have := r3 j; omega)).mono ?_; rintro r w10 ⟨rfl, rfl⟩
  rw [decide_eq_true hzeroH.out]
  go_wp2
  go_ret
  refine ⟨rfl, ?_⟩
  exact Below.trans (Below.trans (Below.trans kB (Below.mono e1.below hgw)) (Below.mono e2.below hgw)) (Below.mono e3.below hgw)
end Go.Proofs.Ytfpneojhhkfhpaa
