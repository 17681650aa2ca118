/- Merged texts: TameP, Abs, ErrAdd, AddP, Kept, NewC, Duo, AddK, AddW, ErrMul, ProdW, MulG, MulP, MildN, MulK, ESplit. -/
import Derived.Test.YtpifkjmdcbieoaaM5
import Derived.Test.YtpifkjmdcbieoaaM1
import Derived.Test.YtpifkjmdcbieoaaM3
import Derived.Deep.DeepCutAuto
/- Tame numbers, and words without their sign. No program is named here. -/
namespace Flt
open Ieee

/-- a tame number, its two parts in least units -/
def TameN (H L : Int) : Prop := (H = 0 ∧ L = 0) ∨ (2 ^ 930 ≤ H.natAbs ∧ H.natAbs < 2 ^ 1220 ∧ rn (H + L) = H ∧ (L = 0 ∨ 2 ^ 674 ≤ L.natAbs))
theorem two_add60 (k : Nat) : 2 ^ (k + 60) = 2 ^ k * 2 ^ 60 := Nat.pow_add 2 k 60
/-- a float times one of at most 2^-60 -/
theorem small_part {h p P z : Int} (hh : FL h) (h1 : 2 ^ 934 ≤ h.natAbs) (hp : p.natAbs < 2 ^ 1014) (hP : p * h = P * 2 ^ uE) (hz : Near P z) : z.natAbs * 2 ^ 60 ≤ h.natAbs := by
  obtain ⟨e, hd, hlt, hc⟩ := canon hh
  have e1 := two_lt (Nat.lt_of_le_of_lt h1 hlt)
  obtain ⟨g, hg⟩ := two_dvd_of_le (show 60 ≤ e by omega) hd
  -- g = h / 2^60 is a float
  have hgf : FL g := by
    obtain ⟨m, hm⟩ := hd
    have e2 : (2 : Int) ^ e = 2 ^ 60 * 2 ^ (e - 60) := by rw [← Int.pow_add]; congr 1; omega
    have h3 : g = 2 ^ (e - 60) * m := by
      refine Int.eq_of_mul_eq_mul_left (Int.ne_of_gt (two_pos 60)) ?_
      rw [← hg, hm, e2, Int.mul_assoc]
    refine fl_of (e := e - 60) ⟨m, h3⟩ ?_
    have h4 : h.natAbs = 2 ^ 60 * g.natAbs := by rw [hg, Int.natAbs_mul, natAbs_two]
    have h5 : (2 : Nat) ^ (53 + e) = 2 ^ 60 * 2 ^ (53 + (e - 60)) := by rw [← Nat.pow_add]; congr 1; omega
    rw [h4, h5] at hlt
    exact Nat.le_of_lt (Nat.lt_of_mul_lt_mul_left hlt)
  have hga : h.natAbs = 2 ^ 60 * g.natAbs := by rw [hg, Int.natAbs_mul, natAbs_two]
  have hPle : P.natAbs ≤ g.natAbs := by
    have h6 : p.natAbs * h.natAbs = P.natAbs * 2 ^ uE := by
      have := congrArg Int.natAbs hP
      rwa [Int.natAbs_mul, Int.natAbs_mul, natAbs_two] at this
    have h7 := two_add60 1014
    rw [hga, show uE = 1014 + 60 from rfl, h7] at h6
    have h8 : P.natAbs * 2 ^ 1014 * 2 ^ 60 = p.natAbs * g.natAbs * 2 ^ 60 := by
      rw [Nat.mul_assoc P.natAbs, ← h6]; ac_rfl
    have h9 := Nat.eq_of_mul_eq_mul_right (Nat.pow_pos (by decide)) h8
    have h10 : P.natAbs * 2 ^ 1014 ≤ g.natAbs * 2 ^ 1014 := by
      rw [h9, Nat.mul_comm]
      exact Nat.mul_le_mul_left _ (Nat.le_of_lt hp)
    exact Nat.le_of_mul_le_mul_right h10 (two_posN 1014)
  have hzg : z.natAbs ≤ g.natAbs := by
    rcases Int.lt_or_le g 0 with c | c
    · have a1 := hz.le' (fl_neg hgf) (by omega)
      have a2 := hz.ge hgf (by omega)
      omega
    · have a1 := hz.le' hgf (by omega)
      have a2 := hz.ge (fl_neg hgf) (by omega)
      omega
  rw [hga, Nat.mul_comm]
  exact Nat.mul_le_mul_left _ hzg
theorem two_add4 (k : Nat) : 2 ^ (4 + k) = 16 * 2 ^ k := Nat.pow_add 2 4 k
theorem two_add6 (k : Nat) : 2 ^ (6 + k) = 64 * 2 ^ k := Nat.pow_add 2 6 k
theorem tame_made {h z : Int} (h1 : 2 ^ 934 ≤ h.natAbs) (h2 : h.natAbs < 2 ^ 1214) (hz : z.natAbs * 2 ^ 60 ≤ h.natAbs) (hL : 2 ^ 674 ≤ (h + z - rn (h + z)).natAbs) : TameN (rn (h + z)) (h + z - rn (h + z)) := by
  have hr := (rn_near (h + z)).rel
  have e60 : (2 : Nat) ^ 60 = 1152921504606846976 := rfl
  rw [e60] at hz
  have p1 := two_add4 930
  have p2 := two_add6 1214
  rw [show (4 + 930 : Nat) = 934 from rfl] at p1
  rw [show (6 + 1214 : Nat) = 1220 from rfl] at p2
  obtain ⟨A, hA⟩ : ∃ A, A = 2 ^ 930 := ⟨_, rfl⟩
  obtain ⟨B, hB⟩ : ∃ B, B = 2 ^ 1214 := ⟨_, rfl⟩
  obtain ⟨C, hC⟩ : ∃ C, C = 2 ^ 674 := ⟨_, rfl⟩
  obtain ⟨r, hrr⟩ : ∃ r, r = rn (h + z) := ⟨_, rfl⟩
  have e1 : rn (r + (h + z - r)) = r := by rw [show r + (h + z - r) = h + z from by omega]; exact hrr.symm
  unfold TameN
  rw [p1] at h1
  rw [p2, ← hrr]
  rw [← hrr] at hL hr
  rw [← hA] at h1 ⊢
  rw [← hB] at h2 ⊢
  rw [← hC] at hL ⊢
  exact Or.inr ⟨by omega, by omega, e1, Or.inr hL⟩
theorem tame_plain {h : Int} (hf : FL h) (h1 : 2 ^ 934 ≤ h.natAbs) (h2 : h.natAbs < 2 ^ 1214) : TameN h 0 :=
  Or.inr ⟨Nat.le_trans (two_le (a := 930) (b := 934) (by decide)) h1, Nat.lt_of_lt_of_le h2 (two_le (a := 1214) (b := 1220) (by decide)), by rw [Int.add_zero]; exact rn_fl hf, Or.inl rfl⟩
end Flt
namespace Go.Proofs.Ytpifkjmdcbieoaa
open Go.RowKit

/-- a word without its sign -/
theorem num_abs {x : Nat} {n : Int} (hx : Flt.Num x n) : Flt.Num (x % 9223372036854775808) ((n.natAbs : Nat) : Int) := by
  have hlt := hx.lt
  have hf := hx.fin
  have e64 : (2 : Nat) ^ 64 = 18446744073709551616 := rfl
  obtain ⟨y, hy⟩ : ∃ y, y = x % 9223372036854775808 := ⟨_, rfl⟩
  rw [← hy] at hf ⊢
  have hn := Flt.num_of (x := y) (by omega) (by omega)
  have h0 := Flt.v_nonneg hf
  by_cases c : x < 9223372036854775808
  · have e : y = x := by omega
    rw [e] at hn h0 ⊢
    rw [hx.val] at hn h0
    rwa [show ((n.natAbs : Nat) : Int) = n from by omega]
  · have hv := Flt.v_neg (x := x) (y := y) (by omega) hf
    rw [hx.val] at hv
    rwa [show ((n.natAbs : Nat) : Int) = Flt.vI y from by omega]
theorem v_400 : Flt.vI 2805742567851819008 = 2 ^ 674 := by
  rw [Flt.v_mid (by decide) (by decide)]
  have e1 : ((4503599627370496 + 2805742567851819008 % 4503599627370496 : Nat) : Int) = 2 ^ 52 := by decide
  have e2 : 2805742567851819008 / 4503599627370496 - 1 = 622 := by decide
  rw [e1, e2]
  have := Int.pow_add 2 52 622
  rw [show (52 + 622 : Nat) = 674 from rfl] at this
  exact this.symm
/-- from 2^-400 on -/
theorem cut_400 {y : Nat} {k : Nat} (hy : Flt.Num y (k : Int)) (h63 : y < 9223372036854775808) (h : 2805742567851819008 ≤ y) : 2 ^ 674 ≤ k := by
  have hf := hy.fin
  have hv := hy.val
  have hlt := hy.lt
  have e64 : (2 : Nat) ^ 64 = 18446744073709551616 := rfl
  have hf2 : y < 9218868437227405312 := by omega
  have h4 := v_400
  have pk := pw 674
  obtain ⟨A, hA⟩ : ∃ A, A = (2 : Int) ^ 674 := ⟨_, rfl⟩
  rw [← hA] at h4 pk
  obtain ⟨B, hB⟩ : ∃ B, B = (2 : Nat) ^ 674 := ⟨_, rfl⟩
  rw [← hB] at pk ⊢
  by_cases c : y = 2805742567851819008
  · rw [c] at hv; omega
  · have := Flt.v_lt (x := 2805742567851819008) (y := y) (by omega) hf2
    omega
theorem num_same' {x : Nat} {a b : Int} (h : Flt.Num x a) (k : Flt.Num x b) : a = b := by
  rw [num_parts h, num_parts k]
end Go.Proofs.Ytpifkjmdcbieoaa

/- math.Abs: a float's word without its sign; orders of such words with finite ones. -/
namespace Flt
open Ieee

theorem read_inf {y : Nat} (h : y = 9218868437227405312) : double.read y = .infinity false := by subst h; decide +kernel
theorem read_nan {y : Nat} (h : 9218868437227405312 < y) (h2 : y < 9223372036854775808) : ∃ s p, double.read y = .nan s p := by
  unfold Format.read
  rw [weight_eq, binade_eq, inf_eq]
  have e : y % 9223372036854775808 = y := Nat.mod_eq_of_lt h2
  have h1 : ¬ y < 4503599627370496 := by omega
  have h3 : ¬ y < 9218868437227405312 := by omega
  have h4 : ¬ y = 9218868437227405312 := by omega
  simp only [e, h1, h3, h4, if_false]
  exact ⟨_, _, rfl⟩
theorem read_fin {c : Nat} (hc : c < 9218868437227405312) : ∃ s m i, double.read c = .number s m i := by
  by_cases k : c % 9223372036854775808 < 4503599627370496
  · exact ⟨_, _, _, read_small k⟩
  · exact ⟨_, _, _, read_mid k (by omega)⟩
/-- a word without a sign beside a finite one -/
theorem ord4 (y c : Nat) (hy : y < 9223372036854775808) (hc : c < 9218868437227405312) :
    (double.order y c = some .lt ∧ y < c) ∨ (double.order y c = some .eq ∧ y = c) ∨ (double.order y c = some .gt ∧ c < y ∧ y ≤ 9218868437227405312) ∨ (double.order y c = none ∧ 9218868437227405312 < y) := by
  by_cases h : y < 9218868437227405312
  · rw [order_words h hc]
    rcases Nat.lt_trichotomy y c with k | k | k
    · exact Or.inl ⟨congrArg some (cmp_lt k), k⟩
    · exact Or.inr (Or.inl ⟨by rw [k]; exact congrArg some (cmp_eq c), k⟩)
    · exact Or.inr (Or.inr (Or.inl ⟨congrArg some (cmp_gt k), k, by omega⟩))
  · obtain ⟨s, m, i, hr⟩ := read_fin hc
    by_cases h2 : y = 9218868437227405312
    · refine Or.inr (Or.inr (Or.inl ⟨?_, by omega, by omega⟩))
      unfold Format.order
      rw [hr, read_inf h2]; rfl
    · obtain ⟨t, p, hn⟩ := read_nan (y := y) (by omega) hy
      refine Or.inr (Or.inr (Or.inr ⟨?_, by omega⟩))
      unfold Format.order
      rw [hr, hn]; rfl
/-- a finite word beside the infinity -/
theorem ord_inf {y : Nat} (hy : y < 9218868437227405312) : double.order y 9218868437227405312 = some .lt := by
  obtain ⟨s, m, i, hr⟩ := read_fin hy
  unfold Format.order
  rw [hr, read_inf rfl]; rfl
end Flt
namespace Go.Proofs.Ytpifkjmdcbieoaa
open Go.RowKit

theorem bits_abs (x : Nat) (hx : x < 18446744073709551616) : bits .andNot .u64 (x : Int) 9223372036854775808 = ((x % 9223372036854775808 : Nat) : Int) := by
  have h2 : (BitVec.ofInt 64 (x : Int)).toNat = x := by
    rw [BitVec.ofInt_natCast, BitVec.toNat_ofNat]; exact Nat.mod_eq_of_lt (by omega)
  show IntKind.u64.wrap ((BitVec.ofInt 64 (x : Int) &&& ~~~(BitVec.ofInt 64 9223372036854775808)).toNat : Int) = _
  have h3 : (~~~(BitVec.ofInt 64 9223372036854775808)).toNat = 2 ^ 63 - 1 := by decide
  rw [BitVec.toNat_and, h2, h3, Nat.and_two_pow_sub_one_eq_mod, IntKind.wrap_u64]
  omega
theorem ret_f64 {a b : Nat} (h : a = b) : Ending.returned (.float .f64 a) = .returned (.float .f64 b) := by rw [h]
theorem abs_any (x : Nat) (w : World) (hx : x < 18446744073709551616) :
    Calls Try.prog 21 #[.float .f64 x] w fun e w' => e = .returned (.float .f64 (x % 9223372036854775808)) ∧ w = w' := by
  obtain ⟨y, hy⟩ : ∃ y, y = x % 9223372036854775808 := ⟨_, rfl⟩
  have hb : bits .andNot .u64 (x : Int) 9223372036854775808 = (y : Int) := by rw [hy]; exact bits_abs x hx
  have r1 := fun w => run_bits x w
  have r2 := fun w => run_frombits (y : Int) w
  rw [← hy]
  clear hy hx
  go_enter Try.func21, Try.ntmps21
  go_wp2
  go_ret
  exact ⟨ret_f64 (by simp), rfl⟩
end Go.Proofs.Ytpifkjmdcbieoaa

/- Layer 4: how far a sum of two numbers of two floats is from the exact one. Over whole numbers. No program is named here. -/
namespace Flt

theorem two_add20 (k : Nat) : 2 ^ (k + 20) = 1048576 * 2 ^ k := by rw [Nat.pow_add, Nat.mul_comm]
theorem mul_le_r {x y K : Nat} (h : x ≤ y) : x * K ≤ y * K := Nat.mul_le_mul_right _ h
theorem add_bound {K B l l' e1 f1 t1 v d1 s1 e2 d2 h h' : Nat} (hK : 4 ≤ K) (hh : h ≤ B) (hh' : h' ≤ B) (hl : l * K ≤ h + l) (hl' : l' * K ≤ h' + l') (he1 : e1 * K ≤ h + h') (hf1 : f1 * K ≤ l + l') (ht1 : t1 ≤ l + l' + f1) (hd1 : d1 * K ≤ e1 + t1)
    (hv : v ≤ e1 + t1 + d1) (hs1 : s1 ≤ h + h' + e1) (he2 : e2 * K ≤ s1 + v) (hd2 : d2 * K ≤ e2 + f1) : (d1 + d2) * K * K ≤ 38 * B := by
  have k4 : ∀ x, 4 * x ≤ x * K := fun x => by rw [Nat.mul_comm]; exact Nat.mul_le_mul_left x hK
  have a1 := mul_le_r (K := K) ht1
  have a2 := mul_le_r (K := K) hd1
  have a3 := mul_le_r (K := K) hd2
  rw [Nat.add_mul, Nat.add_mul] at a1
  rw [Nat.add_mul] at a2 a3
  rw [Nat.add_mul, Nat.add_mul]
  have k1 := k4 l
  have k2 := k4 l'
  have k3 := k4 e1
  have k5 := k4 f1
  have k6 := k4 t1
  have k7 := k4 e2
  have k8 := k4 d1
  have k9 := k4 d2
  omega
/-- 2^53, not looked into -/
noncomputable def K53 : Nat := Classical.choose (⟨9007199254740992, rfl⟩ : ∃ v, v = 9007199254740992)
theorem K53_eq : K53 = 9007199254740992 := Classical.choose_spec (⟨9007199254740992, rfl⟩ : ∃ v, v = 9007199254740992)
theorem K53_ge : 4 ≤ K53 := by rw [K53_eq]; decide
theorem Near.relK {n z : Int} (h : Near n z) : (z - n).natAbs * K53 ≤ n.natAbs := by rw [K53_eq]; exact h.rel
theorem near_lo {H L : Int} (h : rn (H + L) = H) : L.natAbs * K53 ≤ H.natAbs + L.natAbs := by
  have h1 := (rn_near (H + L)).relK
  rw [h, show (H - (H + L)).natAbs = L.natAbs from by omega] at h1
  exact Nat.le_trans h1 (by omega)
/-- the error of a sum, where it is at hand -/
theorem near_part {n z e : Int} (h : Near n z) (he : z + e = n) : e.natAbs * K53 ≤ n.natAbs := by
  have h1 := h.relK
  rw [show (z - n).natAbs = e.natAbs from by omega] at h1
  exact h1
/-- the sum by two sums without an error, their errors' sum, and another: the error -/
theorem add_err {H L H' L' s1 e1 t1 f1 v s2 e2 w : Int} {B : Nat} (hh : H.natAbs ≤ B) (hh' : H'.natAbs ≤ B) (hL : rn (H + L) = H) (hL' : rn (H' + L') = H') (n1 : Near (H + H') s1) (x1 : s1 + e1 = H + H') (n2 : Near (L + L') t1) (x2 : t1 + f1 = L + L')
    (n3 : Near (e1 + t1) v) (n4 : Near (s1 + v) s2) (x4 : s2 + e2 = s1 + v) (n5 : Near (e2 + f1) w) : (s2 + w - (H + L + (H' + L'))).natAbs * K53 * K53 ≤ 38 * B := by
  have b := add_bound (B := B) (l := L.natAbs) (l' := L'.natAbs) (e1 := e1.natAbs) (f1 := f1.natAbs) (t1 := t1.natAbs) (v := v.natAbs) (d1 := (v - (e1 + t1)).natAbs) (s1 := s1.natAbs) (e2 := e2.natAbs) (d2 := (w - (e2 + f1)).natAbs) K53_ge hh hh' (near_lo hL) (near_lo hL')
    (Nat.le_trans (near_part n1 x1) (by omega)) (Nat.le_trans (near_part n2 x2) (by omega)) (by omega) (Nat.le_trans n3.relK (by omega)) (by omega) (by omega) (Nat.le_trans (near_part n4 x4) (by omega)) (Nat.le_trans n5.relK (by omega))
  exact Nat.le_trans (Nat.mul_le_mul_right _ (Nat.mul_le_mul_right _ (by omega))) b
/-- from errors over 2^106 -/
theorem err_pow {D C T k : Nat} (h : D * K53 * K53 ≤ C * 2 ^ T) (hC : C < 2 ^ (106 - k)) (hk : k ≤ T) (hk2 : k ≤ 106) : D < 2 ^ (T - k) := by
  have e53 : (9007199254740992 : Nat) = 2 ^ 53 := by decide
  rw [K53_eq, e53, Nat.mul_assoc, ← Nat.pow_add] at h
  have h1 : C * 2 ^ T < 2 ^ (106 - k) * 2 ^ T := Nat.mul_lt_mul_of_pos_right hC (Nat.pow_pos (by decide))
  have h2 : 2 ^ (106 - k) * 2 ^ T = 2 ^ (T - k) * 2 ^ (53 + 53) := by
    rw [← Nat.pow_add, ← Nat.pow_add]
    congr 1
    omega
  rw [h2] at h1
  exact Nat.lt_of_mul_lt_mul_right (Nat.lt_of_le_of_lt h h1)
end Flt

/- Layer 4: a sum of two tame numbers by four sums: sizes, what divides, the error. Over whole numbers. No program is named here. -/
namespace Go.Proofs.Ytpifkjmdcbieoaa
open Go.RowKit

theorem TameN.rn {H L : Int} (h : Flt.TameN H L) : Flt.rn (H + L) = H := by
  rcases h with ⟨h1, h2⟩ | ⟨_, _, h, _⟩
  · rw [h1, h2]; decide
  · exact h
theorem TameN.up {H L : Int} (h : Flt.TameN H L) : H.natAbs ≤ 2 ^ 1220 ∧ L.natAbs ≤ 2 ^ 1220 := by
  have h1 : H.natAbs ≤ 2 ^ 1220 := by
    rcases h with ⟨h0, _⟩ | ⟨_, h, _⟩
    · rw [h0]; exact Nat.zero_le _
    · exact Nat.le_of_lt h
  have h2 := Flt.near_lo (TameN.rn h)
  have h3 : 4 * L.natAbs ≤ L.natAbs * Flt.K53 := by rw [Nat.mul_comm]; exact Nat.mul_le_mul_left _ Flt.K53_ge
  exact ⟨h1, by omega⟩
theorem fl_dvd_of {n : Int} {e k : Nat} (hk : k = 52 + e) (hf : Flt.FL n) (h : n = 0 ∨ 2 ^ k ≤ n.natAbs) : (2 : Int) ^ e ∣ n := by
  subst hk
  rcases h with rfl | h
  · exact Int.dvd_zero _
  · exact Flt.dvd_of_ge hf h
theorem TameN.dvd {x y : Nat} {H L : Int} (hx : Flt.Num x H) (hy : Flt.Num y L) (h : Flt.TameN H L) : (2 : Int) ^ 622 ∣ H ∧ (2 : Int) ^ 622 ∣ L := by
  rcases h with ⟨rfl, rfl⟩ | ⟨h1, _, _, h4⟩
  · exact ⟨Int.dvd_zero _, Int.dvd_zero _⟩
  · exact ⟨Flt.two_dvd_of_le (e := 622) (f := 878) (by decide) (fl_dvd_of (e := 878) (k := 930) (by decide) hx.fl (Or.inr h1)), fl_dvd_of (e := 622) (k := 674) (by decide) hy.fl h4⟩
theorem rn_dvd {e : Nat} {n : Int} (h : (2 : Int) ^ e ∣ n) : (2 : Int) ^ e ∣ Flt.rn n := (Flt.rn_near n).dvd h
theorem ge_of_dvd {e k : Nat} {n : Int} (h : (2 : Int) ^ e ∣ n) (hk : k ≤ e) : n = 0 ∨ 2 ^ k ≤ n.natAbs := by
  by_cases h0 : n = 0
  · exact Or.inl h0
  · obtain ⟨m, hm⟩ := h
    have h2 : n.natAbs = 2 ^ e * m.natAbs := by rw [hm, Int.natAbs_mul, Flt.natAbs_two]
    have hm0 : m ≠ 0 := by intro hc; rw [hc, Int.mul_zero] at hm; exact h0 hm
    refine Or.inr (Nat.le_trans (Flt.two_le hk) ?_)
    rw [h2]
    exact Nat.le_mul_of_pos_right _ (by omega)
/-- what a rounding can make of a number: at most twice it -/
theorem rn_le2 (n : Int) : (Flt.rn n).natAbs ≤ 2 * n.natAbs := by
  have h := (Flt.rn_near n).relK
  have h3 : 4 * (Flt.rn n - n).natAbs ≤ (Flt.rn n - n).natAbs * Flt.K53 := by rw [Nat.mul_comm]; exact Nat.mul_le_mul_left _ Flt.K53_ge
  omega
theorem v_le {k m V n : Nat} (hV : V = 2 ^ k) (h : n ≤ 1048576 * V) (hk : k + 20 ≤ m) : n ≤ 2 ^ m := by
  have e := Flt.two_add20 k
  rw [← hV] at e
  exact Nat.le_trans h (Nat.le_trans (Nat.le_of_eq e.symm) (Flt.two_le hk))
theorem na_add {a b : Int} {A B C : Nat} (ha : a.natAbs ≤ A) (hb : b.natAbs ≤ B) (h : A + B ≤ C) : (a + b).natAbs ≤ C := by omega
theorem na_sub {a b : Int} {A B C : Nat} (ha : a.natAbs ≤ A) (hb : b.natAbs ≤ B) (h : A + B ≤ C) : (a - b).natAbs ≤ C := by omega
theorem na_rn {n : Int} {A C : Nat} (hn : n.natAbs ≤ A) (h : 2 * A ≤ C) : (Flt.rn n).natAbs ≤ C := by
  have := rn_le2 n
  omega
theorem up_add {a b : Int} {c d V : Nat} (ha : a.natAbs ≤ c * V) (hb : b.natAbs ≤ d * V) (h : c + d ≤ 4096) : 4 * (a + b).natAbs ≤ 1048576 * V := by
  have h1 : (a + b).natAbs ≤ (c + d) * V := by rw [Nat.add_mul]; omega
  have h2 := Nat.mul_le_mul_right V h
  omega
end Go.Proofs.Ytpifkjmdcbieoaa

/- Layer 4's landed dd: a float below 2^-400 counts as 0. -/
namespace Go.Proofs.Ytpifkjmdcbieoaa
open Go.RowKit

theorem ex_eq (n : Nat) : ∃ v, v = n := ⟨n, rfl⟩
/-- a number, not looked into -/
noncomputable def veil (n : Nat) : Nat := Classical.choose (ex_eq n)
theorem veil_eq (n : Nat) : veil n = n := Classical.choose_spec (ex_eq n)
/-- 2^-400 in least units -/
noncomputable def q400 : Nat := veil (2 ^ 674)
theorem q400_eq : q400 = 2 ^ 674 := by unfold q400; rw [veil_eq]
/-- what is kept of a number -/
noncomputable def kp (n : Int) : Int := if n.natAbs < q400 then 0 else n
theorem kp_lt {n : Int} (h : n.natAbs < q400) : kp n = 0 := by unfold kp; rw [if_pos h]
theorem kp_ge {n : Int} (h : q400 ≤ n.natAbs) : kp n = n := by unfold kp; rw [if_neg (by omega)]
theorem kp_zero : kp 0 = 0 := by
  by_cases h : (0 : Int).natAbs < q400
  · exact kp_lt h
  · exact kp_ge (by omega)
theorem kp_or (n : Int) : (kp n = 0 ∧ n.natAbs < q400) ∨ (kp n = n ∧ q400 ≤ n.natAbs) := by
  by_cases h : n.natAbs < q400
  · exact Or.inl ⟨kp_lt h, h⟩
  · exact Or.inr ⟨kp_ge (by omega), by omega⟩
theorem kp_id {n : Int} {k : Nat} (hk : 674 ≤ k) (h : n = 0 ∨ 2 ^ k ≤ n.natAbs) : kp n = n := by
  rcases h with rfl | h
  · exact kp_zero
  · exact kp_ge (by rw [q400_eq]; exact Nat.le_trans (Flt.two_le (a := 674) hk) h)
theorem kp_le (n : Int) : (kp n).natAbs ≤ n.natAbs := by
  rcases kp_or n with ⟨h, _⟩ | ⟨h, _⟩ <;> rw [h]
  · exact Nat.zero_le _
  · exact Nat.le_refl _
theorem kp_err (n : Int) : (kp n - n).natAbs ≤ q400 := by
  rcases kp_or n with ⟨h, h2⟩ | ⟨h, _⟩ <;> rw [h] <;> omega
theorem kp_dvd {d n : Int} (h : d ∣ n) : d ∣ kp n := by
  rcases kp_or n with ⟨h1, _⟩ | ⟨h1, _⟩ <;> rw [h1]
  · exact Int.dvd_zero _
  · exact h
theorem kp_up {n : Int} {A : Nat} (h : n.natAbs ≤ A) : (kp n).natAbs ≤ A := Nat.le_trans (kp_le n) h
/-- what is kept of a float is a multiple of 2^-452 -/
theorem kp_fl_dvd {n : Int} (h : Flt.FL n) : (2 : Int) ^ 622 ∣ kp n := by
  rcases kp_or n with ⟨h1, _⟩ | ⟨h1, h2⟩ <;> rw [h1]
  · exact Int.dvd_zero _
  · rw [q400_eq] at h2
    exact fl_dvd_of (e := 622) (k := 674) (by decide) h (Or.inr h2)
theorem v_400' {y : Nat} {k : Nat} (hy : Flt.Num y (k : Int)) (h : y < 2805742567851819008) : k < 2 ^ 674 := by
  have hv := hy.val
  have h4 := v_400
  have pk := pw 674
  obtain ⟨A, hA⟩ : ∃ A, A = (2 : Int) ^ 674 := ⟨_, rfl⟩
  rw [← hA] at h4 pk
  obtain ⟨B, hB⟩ : ∃ B, B = (2 : Nat) ^ 674 := ⟨_, rfl⟩
  rw [← hB] at pk ⊢
  have := Flt.v_lt (x := y) (y := 2805742567851819008) h (by decide)
  omega
theorem num_zero_k : Flt.Num 0 0 := by
  have h := Flt.num_of (x := 0) (by decide) (by decide)
  rwa [Flt.v_small (by decide)] at h
/-- kept -/
theorem kept_any (x : Nat) (n : Int) (w : World) (hx : Flt.Num x n) :
    Calls Try.prog 33 #[.float .f64 x] w fun r w' => ∃ y, r = .returned (.float .f64 y) ∧ Flt.Num y (kp n) ∧ w = w' := by
  have habs := fun w => abs_any x w hx.lt
  have nA := num_abs hx
  obtain ⟨y', hy'⟩ : ∃ y', y' = x % 9223372036854775808 := ⟨_, rfl⟩
  rw [← hy'] at habs nA
  have ho := Flt.ord4 y' 2805742567851819008 (by omega) (by decide)
  have hcut := cut_400 nA (by omega)
  have hcut2 := v_400' nA
  rw [← q400_eq] at hcut hcut2
  have hyf : y' < 9218868437227405312 := by have := hx.fin; omega
  have hx := Lib.hid hx
  clear nA hy'
  rcases ho with ⟨o, ho'⟩ | ⟨o, ho'⟩ | ⟨o, ho', _⟩ | ⟨o, ho'⟩
  · have o2 : FloatKind.f64.format.order y' 2805742567851819008 = _ := o
    have hk := Lib.hid (kp_lt (hcut2 ho'))
    clear o ho' hcut hcut2 hyf
    go_enter Try.func33, Try.ntmps33
    go_wp2_with fail
    refine (habs _).mono ?_; rintro r w3 ⟨rfl, rfl⟩
    go_wp2
    go_ret
    exact ⟨0, rfl, hk.out ▸ num_zero_k, rfl⟩
  · have o2 : FloatKind.f64.format.order y' 2805742567851819008 = _ := o
    have hk := Lib.hid (kp_ge (hcut (by omega)))
    clear o ho' hcut hcut2 hyf
    go_enter Try.func33, Try.ntmps33
    go_wp2_with fail
    refine (habs _).mono ?_; rintro r w3 ⟨rfl, rfl⟩
    go_wp2
    go_ret
    exact ⟨x, rfl, hk.out.symm ▸ hx.out, rfl⟩
  · have o2 : FloatKind.f64.format.order y' 2805742567851819008 = _ := o
    have hk := Lib.hid (kp_ge (hcut (by omega)))
    clear o ho' hcut hcut2 hyf
    go_enter Try.func33, Try.ntmps33
    go_wp2_with fail
    refine (habs _).mono ?_; rintro r w3 ⟨rfl, rfl⟩
    go_wp2
    go_ret
    exact ⟨x, rfl, hk.out.symm ▸ hx.out, rfl⟩
  · exact absurd ho' (Nat.not_lt_of_lt hyf)
end Go.Proofs.Ytpifkjmdcbieoaa

/- New, Neg, Float and sum of the landed dd. -/
namespace Go.Proofs.Ytpifkjmdcbieoaa
open Go.RowKit

theorem upTo1 {a : Int} (h : a.natAbs ≤ 2 ^ 1474) : UpTo 1 a := by
  unfold UpTo
  rw [Nat.one_mul]
  exact Nat.le_trans h (Flt.two_le (a := 1474) (b := mtop) (by decide))
/-- eft.Sum by rn -/
theorem sum_rn (x y : Nat) (a b : Int) (w : World) (hx : Flt.Num x a) (hy : Flt.Num y b) (ha : a.natAbs ≤ 2 ^ 1474) (hb : b.natAbs ≤ 2 ^ 1474) :
    Calls Try.prog 51 #[.float .f64 x, .float .f64 y] w fun r w' => ∃ s e, r = .returned (.tuple #[.float .f64 s, .float .f64 e]) ∧ Flt.Num s (Flt.rn (a + b)) ∧ Flt.Num e (a + b - Flt.rn (a + b)) ∧ w = w' := by
  obtain ⟨s', k1, k2⟩ := Flt.add_rn hx hy (((upTo1 ha).add (upTo1 hb)).lt (by decide))
  refine (sum_any x y a b w hx hy (upTo1 ha) (upTo1 hb)).mono ?_
  rintro r w' ⟨s, e, σ, ε, h1, h2, h3, h4, h5, _, _, _, h9⟩
  rw [h2] at k1
  have es : s = s' := Option.some.inj k1
  rw [← es] at k2
  have hσ : σ = Flt.rn (a + b) := num_same' h3 k2
  refine ⟨s, e, h1, k2, ?_, h9⟩
  rw [show a + b - Flt.rn (a + b) = ε from by omega]
  exact h4
theorem new_any (x y : Nat) (a b : Int) (w : World) (hx : Flt.Num x a) (hy : Flt.Num y b) (ha : a.natAbs ≤ 2 ^ 1474) (hb : b.natAbs ≤ 2 ^ 1474) :
    Calls Try.prog 49 #[.float .f64 x, .float .f64 y] w fun r w' => ∃ s e, r = .returned (.agg #[.float .f64 s, .float .f64 e]) ∧ Flt.Num s (Flt.rn (a + b)) ∧ Flt.Num e (a + b - Flt.rn (a + b)) ∧ Bel w w' := by
  have sf := run_store_float Try.prog
  have hS := fun w => sum_rn x y a b w hx hy ha hb
  go_enter Try.func49, Try.ntmps49
  go_wp2_with fail
  refine (hS _).mono ?_; rintro r w1 ⟨s, e, rfl, ns, ne, rfl⟩
  go_wp2
  refine bodyPost_ret (by simp [results, go_sem]; try rfl) rfl ?_
  exact ⟨s, e, rfl, ns, ne, (Bel.refl _).alloc _⟩
theorem neg_any (x y : Nat) (w : World) : Calls Try.prog 22 #[.agg #[.float .f64 x, .float .f64 y]] w fun r w' => r = .returned (.agg #[.float .f64 (Op.negFloat .f64 x), .float .f64 (Op.negFloat .f64 y)]) ∧ Bel w w' := by
  have sf := run_store_float Try.prog
  have m1 := fun w => run_neg (P := Try.prog) x w
  have m2 := fun w => run_neg (P := Try.prog) y w
  go_enter Try.func22, Try.ntmps22
  go_wp2
  refine bodyPost_ret (by simp [results, go_sem]; try rfl) rfl ?_
  exact ⟨rfl, ((Bel.refl _).alloc _).alloc _⟩
theorem float_any (x y : Nat) (w : World) : Calls Try.prog 25 #[.agg #[.float .f64 x, .float .f64 y]] w fun r w' => r = .returned (.float .f64 x) ∧ Bel w w' := by
  go_enter Try.func25, Try.ntmps25
  go_wp2
  go_ret
  exact ⟨rfl, (Bel.refl _).alloc _⟩
/-- New of what is kept -/
theorem sumk_any (x y : Nat) (a b : Int) (w : World) (hx : Flt.Num x a) (hy : Flt.Num y b) (ha : a.natAbs ≤ 2 ^ 1474) (hb : b.natAbs ≤ 2 ^ 1474) :
    Calls Try.prog 34 #[.float .f64 x, .float .f64 y] w fun r w' => ∃ s e, r = .returned (.agg #[.float .f64 s, .float .f64 e]) ∧ Flt.Num s (Flt.rn (kp a + kp b)) ∧ Flt.Num e (kp a + kp b - Flt.rn (kp a + kp b)) ∧ Bel w w' := by
  have sf := run_store_float Try.prog
  have k1 := fun w => kept_any x a w hx
  have k2 := fun w => kept_any y b w hy
  have kN := fun (p q : Nat) w hp hq => new_any p q (kp a) (kp b) w hp hq (kp_up ha) (kp_up hb)
  clear hx hy ha hb
  go_enter Try.func34, Try.ntmps34
  go_wp2_with fail
  refine (k1 _).mono ?_; rintro r w1 ⟨p, rfl, np, rfl⟩
  go_wp2_with fail
  refine (k2 _).mono ?_; rintro r w1 ⟨q, rfl, nq, rfl⟩
  go_wp2_with fail
  refine (kN _ _ _ np nq).mono ?_; rintro r w1 ⟨s, e, rfl, ns, ne, hB⟩
  have hT3 := (Two.new w 0 0 30).by hB
  have hBw := ((Bel.refl w).alloc (.cells #[.float .f64 0, .float .f64 0] 30)).trans hB
  obtain ⟨R, hR⟩ : ∃ R, R = w.heap.size := ⟨_, rfl⟩
  have hRw : w.heap.size ≤ R := by omega
  rw [← hR] at hT3 ⊢
  obtain ⟨m1, m2⟩ := hT3.mid s
  obtain ⟨d0, d1, _, _⟩ := hT3.set s e
  obtain ⟨c0, c1, f0, f1⟩ := hT3
  have nH := Lib.hid (And.intro ns ne)
  clear np nq kN k1 k2 ns ne hR hB
  go_wp2
  refine bodyPost_ret (by simp [results, go_sem, d0, d1]; try rfl) rfl ?_
  exact ⟨s, e, rfl, nH.out.1, nH.out.2, (hBw.setCell hRw _).setCell hRw _⟩
end Go.Proofs.Ytpifkjmdcbieoaa

/- 'p, q := sum(a.Hi, b.Hi), sum(a.Lo, b.Lo)' in Add: a region of fourteen operations that draws its order, met by what holds behind each set of them. -/
namespace Go.Proofs.Ytpifkjmdcbieoaa
open Go.RowKit

/-- what holds behind a set of the fourteen -/
structure DuoI (P1 P2 : Nat → Nat → Prop) (cs : List (Nat × Nat × Value)) (w1 : World) (D : Nat → Bool) (f : Nat → Value) (w : World) : Prop where
  bel : Bel w1 w
  cv : CV cs D f
  c1 : D 4 = true → PairV P1 (f 11)
  c2 : D 9 = true → PairV P2 (f 16)
  k1 : D 10 = true → BlkV w1 w (D 12 = true) (f 5) (f 11)
  k2 : D 11 = true → BlkV w1 w (D 13 = true) (f 6) (f 16)
  ne : D 10 = true → D 11 = true → f 5 ≠ f 6
  o1 : D 12 = true → D 4 = true ∧ D 10 = true
  o2 : D 13 = true → D 9 = true ∧ D 11 = true
theorem DuoI.const {P1 P2 : Nat → Nat → Prop} {cs : List (Nat × Nat × Value)} {w1 : World} {D : Nat → Bool} {f : Nat → Value} {w : World} (h : DuoI P1 P2 cs w1 D f w) (i t : Nat) (v : Value) (hi : ∀ c ∈ cs, (c.1 = i ∧ c.2.1 = t ∧ c.2.2 = v) ∨ (c.1 ≠ i ∧ c.2.1 ≠ t))
    (hn : 4 ≠ i ∧ 9 ≠ i ∧ 10 ≠ i ∧ 11 ≠ i ∧ 12 ≠ i ∧ 13 ≠ i) (ht : 5 ≠ t ∧ 6 ≠ t ∧ 11 ≠ t ∧ 16 ≠ t) : DuoI P1 P2 cs w1 (fun k => D k || k == i) (tset f t v) w := by
  obtain ⟨n4, n9, n10, n11, n12, n13⟩ := hn
  obtain ⟨t5, t6, t11, t16⟩ := ht
  refine ⟨h.bel, h.cv.self i t v hi, ?_, ?_, ?_, ?_, ?_, fun g => (h.o1 (dn n12 g)).imp dup dup, fun g => (h.o2 (dn n13 g)).imp dup dup⟩
  · rw [tset_ne _ _ t11]; exact fun g => h.c1 (dn n4 g)
  · rw [tset_ne _ _ t16]; exact fun g => h.c2 (dn n9 g)
  · rw [tset_ne _ _ t5, tset_ne _ _ t11]; exact fun g => (h.k1 (dn n10 g)).imp (dn n12)
  · rw [tset_ne _ _ t6, tset_ne _ _ t16]; exact fun g => (h.k2 (dn n11 g)).imp (dn n13)
  · rw [tset_ne _ _ t5, tset_ne _ _ t6]; exact fun g g' => h.ne (dn n10 g) (dn n11 g')
theorem DuoI.call1 {P1 P2 : Nat → Nat → Prop} {cs : List (Nat × Nat × Value)} {w1 : World} {D : Nat → Bool} {f : Nat → Value} {w w' : World} (h : DuoI P1 P2 cs w1 D f w) {v : Value} (hv : PairV P1 v) (g : Bel w w') (h4 : D 4 = false) (hc : ∀ c ∈ cs, c.1 ≠ 4 ∧ c.2.1 ≠ 11) : DuoI P1 P2 cs w1 (fun k => D k || k == 4) (tset f 11 v) w' := by
  have n12 : ¬ D 12 = true := fun e => by have := (h.o1 e).1; rw [h4] at this; exact absurd this (by decide)
  refine ⟨h.bel.trans g, h.cv.other 4 11 v hc, ?_, ?_, ?_, ?_, ?_, fun q => (h.o1 (dn (by decide) q)).imp dup dup, fun q => (h.o2 (dn (by decide) q)).imp dup dup⟩
  · rw [tset_self]; exact fun _ => hv
  · rw [tset_ne _ _ (by decide)]; exact fun q => h.c2 (dn (by decide) q)
  · rw [tset_ne _ _ (by decide)]; exact fun q => ((h.k1 (dn (by decide) q)).imp (dn (i := 4) (by decide))).bel g |>.turn (fun e => n12 (dn (by decide) e))
  · rw [tset_ne _ _ (by decide), tset_ne _ _ (by decide)]; exact fun q => ((h.k2 (dn (by decide) q)).imp (dn (i := 4) (by decide))).bel g
  · rw [tset_ne _ _ (by decide), tset_ne _ _ (by decide)]; exact fun q q' => h.ne (dn (by decide) q) (dn (by decide) q')
theorem DuoI.call2 {P1 P2 : Nat → Nat → Prop} {cs : List (Nat × Nat × Value)} {w1 : World} {D : Nat → Bool} {f : Nat → Value} {w w' : World} (h : DuoI P1 P2 cs w1 D f w) {v : Value} (hv : PairV P2 v) (g : Bel w w') (h4 : D 9 = false) (hc : ∀ c ∈ cs, c.1 ≠ 9 ∧ c.2.1 ≠ 16) : DuoI P1 P2 cs w1 (fun k => D k || k == 9) (tset f 16 v) w' := by
  have n13 : ¬ D 13 = true := fun e => by have := (h.o2 e).1; rw [h4] at this; exact absurd this (by decide)
  refine ⟨h.bel.trans g, h.cv.other 9 16 v hc, ?_, ?_, ?_, ?_, ?_, fun q => (h.o1 (dn (by decide) q)).imp dup dup, fun q => (h.o2 (dn (by decide) q)).imp dup dup⟩
  · rw [tset_ne _ _ (by decide)]; exact fun q => h.c1 (dn (by decide) q)
  · rw [tset_self]; exact fun _ => hv
  · rw [tset_ne _ _ (by decide), tset_ne _ _ (by decide)]; exact fun q => ((h.k1 (dn (by decide) q)).imp (dn (i := 9) (by decide))).bel g
  · rw [tset_ne _ _ (by decide)]; exact fun q => ((h.k2 (dn (by decide) q)).imp (dn (i := 9) (by decide))).bel g |>.turn (fun e => n13 (dn (by decide) e))
  · rw [tset_ne _ _ (by decide), tset_ne _ _ (by decide)]; exact fun q q' => h.ne (dn (by decide) q) (dn (by decide) q')
theorem DuoI.alloc1 {P1 P2 : Nat → Nat → Prop} {cs : List (Nat × Nat × Value)} {w1 : World} {D : Nat → Bool} {f : Nat → Value} {w : World} (h : DuoI P1 P2 cs w1 D f w) (h4 : D 10 = false) (hc : ∀ c ∈ cs, c.1 ≠ 10 ∧ c.2.1 ≠ 5) :
    DuoI P1 P2 cs w1 (fun k => D k || k == 10) (tset f 5 (.pointer (some ⟨w.heap.size, 0, none⟩))) (w.alloc (.cells #[.float .f64 0, .float .f64 0] 30)) := by
  have n12 : ¬ D 12 = true := fun e => by have := (h.o1 e).2; rw [h4] at this; exact absurd this (by decide)
  refine ⟨h.bel.alloc _, h.cv.other 10 5 _ hc, ?_, ?_, ?_, ?_, ?_, fun q => (h.o1 (dn (by decide) q)).imp dup dup, fun q => (h.o2 (dn (by decide) q)).imp dup dup⟩
  · rw [tset_ne _ _ (by decide)]; exact fun q => h.c1 (dn (by decide) q)
  · rw [tset_ne _ _ (by decide)]; exact fun q => h.c2 (dn (by decide) q)
  · rw [tset_self, tset_ne _ _ (by decide)]; exact fun _ => BlkV.mk0 _ _ _ h.bel (fun e => n12 (dn (by decide) e))
  · rw [tset_ne _ _ (by decide), tset_ne _ _ (by decide)]; exact fun q => ((h.k2 (dn (by decide) q)).imp (dn (i := 10) (by decide))).bel ((Bel.refl w).alloc _)
  · rw [tset_self, tset_ne _ _ (by decide)]; exact fun _ q => (h.k2 (dn (by decide) q)).fresh.symm
theorem DuoI.alloc2 {P1 P2 : Nat → Nat → Prop} {cs : List (Nat × Nat × Value)} {w1 : World} {D : Nat → Bool} {f : Nat → Value} {w : World} (h : DuoI P1 P2 cs w1 D f w) (h4 : D 11 = false) (hc : ∀ c ∈ cs, c.1 ≠ 11 ∧ c.2.1 ≠ 6) :
    DuoI P1 P2 cs w1 (fun k => D k || k == 11) (tset f 6 (.pointer (some ⟨w.heap.size, 0, none⟩))) (w.alloc (.cells #[.float .f64 0, .float .f64 0] 30)) := by
  have n13 : ¬ D 13 = true := fun e => by have := (h.o2 e).2; rw [h4] at this; exact absurd this (by decide)
  refine ⟨h.bel.alloc _, h.cv.other 11 6 _ hc, ?_, ?_, ?_, ?_, ?_, fun q => (h.o1 (dn (by decide) q)).imp dup dup, fun q => (h.o2 (dn (by decide) q)).imp dup dup⟩
  · rw [tset_ne _ _ (by decide)]; exact fun q => h.c1 (dn (by decide) q)
  · rw [tset_ne _ _ (by decide)]; exact fun q => h.c2 (dn (by decide) q)
  · rw [tset_ne _ _ (by decide), tset_ne _ _ (by decide)]; exact fun q => ((h.k1 (dn (by decide) q)).imp (dn (i := 11) (by decide))).bel ((Bel.refl w).alloc _)
  · rw [tset_self, tset_ne _ _ (by decide)]; exact fun _ => BlkV.mk0 _ _ _ h.bel (fun e => n13 (dn (by decide) e))
  · rw [tset_self, tset_ne _ _ (by decide)]; exact fun q _ => (h.k1 (dn (by decide) q)).fresh
theorem DuoI.store1 {P1 P2 : Nat → Nat → Prop} {cs : List (Nat × Nat × Value)} {w1 : World} {D : Nat → Bool} {f : Nat → Value} {w : World} (h : DuoI P1 P2 cs w1 D f w) {X u v α β : Nat} (h4 : D 4 = true) (h10 : D 10 = true) (hX : f 5 = .pointer (some ⟨X, 0, none⟩)) (hle : w1.heap.size ≤ X) (hT : Two w X α β) (hv : f 11 = .agg #[.float .f64 u, .float .f64 v]) (hc : ∀ c ∈ cs, c.1 ≠ 12) :
    DuoI P1 P2 cs w1 (fun k => D k || k == 12) f ((w.setCell ⟨X, 0, none⟩ (.float .f64 u)).setCell ⟨X, 1, none⟩ (.float .f64 v)) := by
  refine ⟨(h.bel.setCell hle _).setCell hle _, h.cv.none 12 hc, fun q => h.c1 (dn (by decide) q), fun q => h.c2 (dn (by decide) q), fun _ => ⟨X, u, v, hX, hle, hT.set u v, fun _ => hv⟩, fun q => ?_, fun q q' => h.ne (dn (by decide) q) (dn (by decide) q'), fun _ => ⟨dup h4, dup h10⟩, fun q => (h.o2 (dn (by decide) q)).imp dup dup⟩
  exact ((h.k2 (dn (by decide) q)).imp (dn (i := 12) (by decide))).so (fun e => h.ne h10 (dn (by decide) q) (hX.trans e.symm)) _ _
theorem DuoI.store2 {P1 P2 : Nat → Nat → Prop} {cs : List (Nat × Nat × Value)} {w1 : World} {D : Nat → Bool} {f : Nat → Value} {w : World} (h : DuoI P1 P2 cs w1 D f w) {X u v α β : Nat} (h4 : D 9 = true) (h10 : D 11 = true) (hX : f 6 = .pointer (some ⟨X, 0, none⟩)) (hle : w1.heap.size ≤ X) (hT : Two w X α β) (hv : f 16 = .agg #[.float .f64 u, .float .f64 v]) (hc : ∀ c ∈ cs, c.1 ≠ 13) :
    DuoI P1 P2 cs w1 (fun k => D k || k == 13) f ((w.setCell ⟨X, 0, none⟩ (.float .f64 u)).setCell ⟨X, 1, none⟩ (.float .f64 v)) := by
  refine ⟨(h.bel.setCell hle _).setCell hle _, h.cv.none 13 hc, fun q => h.c1 (dn (by decide) q), fun q => h.c2 (dn (by decide) q), fun q => ?_, fun _ => ⟨X, u, v, hX, hle, hT.set u v, fun _ => hv⟩, fun q q' => h.ne (dn (by decide) q) (dn (by decide) q'), fun q => (h.o1 (dn (by decide) q)).imp dup dup, fun _ => ⟨dup h4, dup h10⟩⟩
  exact ((h.k1 (dn (by decide) q)).imp (dn (i := 13) (by decide))).so (fun e => h.ne (dn (by decide) q) h10 (e.trans hX.symm)) _ _
/-- two numbers in two new blocks -/
def Duos (P1 P2 : Nat → Nat → Prop) (w1 wx : World) (p q : Value) : Prop := ∃ (X Y x y u v : Nat), p = .pointer (some ⟨X, 0, none⟩) ∧ q = .pointer (some ⟨Y, 0, none⟩) ∧ X ≠ Y ∧ w1.heap.size ≤ X ∧ w1.heap.size ≤ Y ∧ Two wx X x y ∧ Two wx Y u v ∧ Bel w1 wx ∧ P1 x y ∧ P2 u v
theorem DuoI.whole {P1 P2 : Nat → Nat → Prop} {cs : List (Nat × Nat × Value)} {w1 : World} {D : Nat → Bool} {f : Nat → Value} {w : World} (h : DuoI P1 P2 cs w1 D f w) (hD : ∀ i, i < 14 → D i = true) : Duos P1 P2 w1 w (f 5) (f 6) := by
  obtain ⟨x, y, hv, ht⟩ := h.c1 (hD _ (by decide))
  obtain ⟨u, v, hv', ht'⟩ := h.c2 (hD _ (by decide))
  obtain ⟨X, α, β, r1, r2, r3, r4⟩ := h.k1 (hD _ (by decide))
  obtain ⟨Y, α', β', s1, s2, s3, s4⟩ := h.k2 (hD _ (by decide))
  have q1 := r4 (hD _ (by decide))
  have q2 := s4 (hD _ (by decide))
  rw [hv] at q1
  rw [hv'] at q2
  cases q1
  cases q2
  exact ⟨X, Y, x, y, u, v, r1, s1, fun e => h.ne (hD _ (by decide)) (hD _ (by decide)) (by rw [r1, s1, e]), r2, s2, r3, s3, h.bel, ht, ht'⟩
def duoPre (i : Nat) : List Nat := match i with | 1 => [0] | 3 => [2] | 4 => [1, 3] | 6 => [5] | 8 => [7] | 9 => [6, 8] | 12 => [4, 10] | 13 => [9, 11] | _ => []
end Go.Proofs.Ytpifkjmdcbieoaa

/- Layer 4's landed dd: a sum of two numbers by four sums of what is kept: sizes, what divides, the error. Over whole numbers. No program is named here. -/
namespace Go.Proofs.Ytpifkjmdcbieoaa
open Go.RowKit

/-- what Add bears -/
structure AddIn (H L : Int) : Prop where
  dH : (2 : Int) ^ 674 ∣ H
  le : H.natAbs ≤ 2 ^ 1240
  lo : L.natAbs * Flt.K53 ≤ H.natAbs + L.natAbs
  dL : (2 : Int) ^ 622 ∣ kp L
theorem kpH {H : Int} (h : (2 : Int) ^ 674 ∣ H) : kp H = H := kp_id (k := 674) (by decide) (ge_of_dvd (e := 674) (k := 674) h (by decide))
theorem AddIn.le2 {H L : Int} (h : AddIn H L) : L.natAbs ≤ 2 ^ 1240 := by
  have h1 := h.lo
  have h2 : 4 * L.natAbs ≤ L.natAbs * Flt.K53 := by rw [Nat.mul_comm]; exact Nat.mul_le_mul_left _ Flt.K53_ge
  have h3 := h.le
  omega
theorem AddIn.lok {H L : Int} (h : AddIn H L) : (kp L).natAbs * Flt.K53 ≤ H.natAbs + (kp L).natAbs := by
  rcases kp_or L with ⟨h1, _⟩ | ⟨h1, _⟩ <;> rw [h1]
  · simp
  · exact h.lo
theorem AddIn.zero {H L : Int} (h : AddIn H L) (h0 : H = 0) : L = 0 := by
  have h1 := h.lo
  have h2 : 4 * L.natAbs ≤ L.natAbs * Flt.K53 := by rw [Nat.mul_comm]; exact Nat.mul_le_mul_left _ Flt.K53_ge
  rw [h0] at h1
  simp at h1
  omega
/-- the steps -/
structure AddRk (H L H' L' s1 e1 t1 f1 v s2 e2 g Z : Int) : Prop where
  r_s1 : s1 = Flt.rn (H + H')
  r_e1 : e1 = H + H' - s1
  r_t1 : t1 = Flt.rn (kp L + kp L')
  r_f1 : f1 = kp L + kp L' - t1
  r_v : v = Flt.rn (e1 + t1)
  r_s2 : s2 = Flt.rn (s1 + kp v)
  r_e2 : e2 = s1 + kp v - s2
  r_g : g = Flt.rn (e2 + f1)
  r_Z : Z = kp s2 + kp g
section
variable {H L H' L' s1 e1 t1 f1 v s2 e2 g Z : Int}
theorem AddRk.dvd (h : AddRk H L H' L' s1 e1 t1 f1 v s2 e2 g Z) (hi : AddIn H L) (hi' : AddIn H' L') : (2 : Int) ^ 622 ∣ Z ∧ (2 : Int) ^ 674 ∣ s1 := by
  obtain ⟨h1, h2, h3, h4, h5, h6, h7, h8, h9⟩ := h
  have d0 : (2 : Int) ^ 674 ∣ s1 := h1 ▸ rn_dvd (Int.dvd_add hi.dH hi'.dH)
  have w : ∀ {n : Int}, (2 : Int) ^ 674 ∣ n → (2 : Int) ^ 622 ∣ n := fun h => Flt.two_dvd_of_le (e := 622) (f := 674) (by decide) h
  have d1 := w d0
  have d2 : (2 : Int) ^ 622 ∣ e1 := h2 ▸ Int.dvd_sub (Int.dvd_add (w hi.dH) (w hi'.dH)) d1
  have d3 : (2 : Int) ^ 622 ∣ t1 := h3 ▸ rn_dvd (Int.dvd_add hi.dL hi'.dL)
  have d4 : (2 : Int) ^ 622 ∣ f1 := h4 ▸ Int.dvd_sub (Int.dvd_add hi.dL hi'.dL) d3
  have d5 : (2 : Int) ^ 622 ∣ v := h5 ▸ rn_dvd (Int.dvd_add d2 d3)
  have d6 : (2 : Int) ^ 622 ∣ s2 := h6 ▸ rn_dvd (Int.dvd_add d1 (kp_dvd d5))
  have d7 : (2 : Int) ^ 622 ∣ e2 := h7 ▸ Int.dvd_sub (Int.dvd_add d1 (kp_dvd d5)) d6
  have d8 : (2 : Int) ^ 622 ∣ g := h8 ▸ rn_dvd (Int.dvd_add d7 d4)
  exact ⟨h9 ▸ Int.dvd_add (kp_dvd d6) (kp_dvd d8), d0⟩
theorem AddRk.zero (h : AddRk H L H' L' s1 e1 t1 f1 v s2 e2 g Z) (hi : AddIn H L) (hi' : AddIn H' L') (h0 : H = 0) (h0' : H' = 0) : Z = 0 := by
  have k1 := hi.zero h0
  have k2 := hi'.zero h0'
  subst h0 h0' k1 k2
  obtain ⟨h1, h2, h3, h4, h5, h6, h7, h8, h9⟩ := h
  rw [Int.add_zero, Flt.rn_zero] at h1
  subst h1
  rw [Int.add_zero, Int.sub_zero] at h2
  subst h2
  rw [kp_zero, Int.add_zero, Flt.rn_zero] at h3
  subst h3
  rw [kp_zero, Int.add_zero, Int.sub_zero] at h4
  subst h4
  rw [Int.add_zero, Flt.rn_zero] at h5
  subst h5
  rw [kp_zero, Int.add_zero, Flt.rn_zero] at h6
  subst h6
  rw [kp_zero, Int.add_zero, Int.sub_zero] at h7
  subst h7
  rw [Int.add_zero, Flt.rn_zero] at h8
  subst h8
  rw [kp_zero, Int.add_zero] at h9
  exact h9
structure AddBk (V : Nat) (s1 e1 t1 f1 v s2 e2 g Z : Int) : Prop where
  b_s1 : s1.natAbs ≤ 4 * V
  b_e1 : e1.natAbs ≤ 8 * V
  b_t1 : t1.natAbs ≤ 4 * V
  b_f1 : f1.natAbs ≤ 8 * V
  b_v : v.natAbs ≤ 32 * V
  b_s2 : s2.natAbs ≤ 128 * V
  b_e2 : e2.natAbs ≤ 256 * V
  b_g : g.natAbs ≤ 1024 * V
  b_Z : Z.natAbs ≤ 2048 * V
theorem AddRk.bounds {V : Nat} (h : AddRk H L H' L' s1 e1 t1 f1 v s2 e2 g Z) (bH : H.natAbs ≤ V) (bL : L.natAbs ≤ V) (bH' : H'.natAbs ≤ V) (bL' : L'.natAbs ≤ V) : AddBk V s1 e1 t1 f1 v s2 e2 g Z := by
  obtain ⟨h1, h2, h3, h4, h5, h6, h7, h8, h9⟩ := h
  have k1 : (H + H').natAbs ≤ 2 * V := na_add bH bH' (by omega)
  have k2 : (kp L + kp L').natAbs ≤ 2 * V := na_add (kp_up bL) (kp_up bL') (by omega)
  have q1 : s1.natAbs ≤ 4 * V := h1 ▸ na_rn k1 (by omega)
  have q2 : e1.natAbs ≤ 8 * V := h2 ▸ na_sub k1 q1 (by omega)
  have q3 : t1.natAbs ≤ 4 * V := h3 ▸ na_rn k2 (by omega)
  have q4 : f1.natAbs ≤ 8 * V := h4 ▸ na_sub k2 q3 (by omega)
  have q5 : v.natAbs ≤ 32 * V := h5 ▸ na_rn (na_add q2 q3 (Nat.le_refl _)) (by omega)
  have k3 : (s1 + kp v).natAbs ≤ 64 * V := na_add q1 (kp_up q5) (by omega)
  have q6 : s2.natAbs ≤ 128 * V := h6 ▸ na_rn k3 (by omega)
  have q7 : e2.natAbs ≤ 256 * V := h7 ▸ na_sub k3 q6 (by omega)
  have q8 : g.natAbs ≤ 1024 * V := h8 ▸ na_rn (na_add q7 q4 (Nat.le_refl _)) (by omega)
  have q9 : Z.natAbs ≤ 2048 * V := h9 ▸ na_add (kp_up q6) (kp_up q8) (by omega)
  exact ⟨q1, q2, q3, q4, q5, q6, q7, q8, q9⟩
theorem five {a b c d e q : Nat} (ha : a ≤ q) (hb : b ≤ q) (hc : c ≤ q) (hd : d ≤ q) (he : e ≤ q) : a + b + c + d + e ≤ 5 * q := by omega
theorem sum7 {Z X A B C D E F G : Int} (h : Z - X = A + B + C + D + E + F + G) : (Z - X).natAbs ≤ A.natAbs + B.natAbs + (C.natAbs + D.natAbs + E.natAbs + F.natAbs + G.natAbs) := by
  rw [h]
  have h1 := Int.natAbs_add_le (A + B + C + D + E + F) G
  have h2 := Int.natAbs_add_le (A + B + C + D + E) F
  have h3 := Int.natAbs_add_le (A + B + C + D) E
  have h4 := Int.natAbs_add_le (A + B + C) D
  have h5 := Int.natAbs_add_le (A + B) C
  have h6 := Int.natAbs_add_le A B
  omega
/-- the error -/
theorem AddRk.err {B : Nat} (h : AddRk H L H' L' s1 e1 t1 f1 v s2 e2 g Z) (hi : AddIn H L) (hi' : AddIn H' L') (hh : H.natAbs ≤ B) (hh' : H'.natAbs ≤ B) : (Z - (H + L + (H' + L'))).natAbs * Flt.K53 * Flt.K53 ≤ 38 * B + 5 * (q400 * Flt.K53 * Flt.K53) := by
  obtain ⟨h1, h2, h3, h4, h5, h6, h7, h8, h9⟩ := h
  have n1 : Flt.Near (H + H') s1 := h1 ▸ Flt.rn_near _
  have n2 : Flt.Near (kp L + kp L') t1 := h3 ▸ Flt.rn_near _
  have n3 : Flt.Near (e1 + t1) v := h5 ▸ Flt.rn_near _
  have n4 : Flt.Near (s1 + kp v) s2 := h6 ▸ Flt.rn_near _
  have n5 : Flt.Near (e2 + f1) g := h8 ▸ Flt.rn_near _
  have x1 : s1 + e1 = H + H' := by omega
  have x2 : t1 + f1 = kp L + kp L' := by omega
  have x4 : s2 + e2 = s1 + kp v := by omega
  have hv := kp_le v
  have b := Flt.add_bound (K := Flt.K53) (B := B) (l := (kp L).natAbs) (l' := (kp L').natAbs) (e1 := e1.natAbs) (f1 := f1.natAbs) (t1 := t1.natAbs) (v := (kp v).natAbs) (d1 := (v - (e1 + t1)).natAbs) (s1 := s1.natAbs) (e2 := e2.natAbs) (d2 := (g - (e2 + f1)).natAbs) Flt.K53_ge hh hh' hi.lok hi'.lok
    (Nat.le_trans (Flt.near_part n1 x1) (by omega)) (Nat.le_trans (Flt.near_part n2 x2) (by omega)) (by omega) (Nat.le_trans n3.relK (by omega)) (by omega) (by omega) (Nat.le_trans (Flt.near_part n4 x4) (by omega)) (Nat.le_trans n5.relK (by omega))
  have e0 : Z - (H + L + (H' + L')) = (v - (e1 + t1)) + (g - (e2 + f1)) + (kp s2 - s2) + (kp g - g) + (kp v - v) + (kp L - L) + (kp L' - L') := by omega
  have e1 := sum7 e0
  have e2 := five (kp_err s2) (kp_err g) (kp_err v) (kp_err L) (kp_err L')
  have e3 := Nat.le_trans e1 (Nat.add_le_add_left e2 _)
  have e4 := Nat.mul_le_mul_right Flt.K53 (Nat.mul_le_mul_right Flt.K53 e3)
  rw [Nat.add_mul, Nat.add_mul] at e4
  refine Nat.le_trans e4 (Nat.add_le_add b (Nat.le_of_eq ?_))
  rw [Nat.mul_assoc, Nat.mul_assoc, Nat.mul_assoc]
end
theorem K53_pow : Flt.K53 = 2 ^ 53 := by rw [Flt.K53_eq]
theorem pw4 (a b c d : Nat) : 2 ^ a * (2 ^ b * 2 ^ c * 2 ^ d) = 2 ^ (a + (b + c + d)) := by rw [Nat.pow_add, Nat.pow_add, Nat.pow_add]
theorem small_pow {a b c d k n : Nat} (h : 2 ^ k ≤ n) (hk : a + (b + c + d) ≤ k) : 2 ^ a * (2 ^ b * 2 ^ c * 2 ^ d) ≤ n := by
  rw [pw4]
  exact Nat.le_trans (Flt.two_le hk) h
/-- what is not kept, beside a tame number -/
theorem q400_small {n : Nat} (h : 2 ^ 930 ≤ n) : 2 ^ 7 * (q400 * Flt.K53 * Flt.K53) ≤ n := by
  rw [q400_eq, K53_pow]
  exact small_pow (a := 7) (b := 674) (c := 53) (d := 53) (k := 930) h (by decide)
/-- a tame number is one that Add bears -/
theorem AddIn.tame {x y : Nat} {H L : Int} (hx : Flt.Num x H) (hy : Flt.Num y L) (h : Flt.TameN H L) : AddIn H L := by
  have hu := TameN.up h
  refine ⟨?_, Nat.le_trans hu.1 (Flt.two_le (a := 1220) (b := 1240) (by decide)), Flt.near_lo (TameN.rn h), kp_fl_dvd hy.fl⟩
  rcases h with ⟨h1, _⟩ | ⟨h1, _, _, _⟩
  · rw [h1]; exact Int.dvd_zero _
  · exact Flt.two_dvd_of_le (e := 674) (f := 878) (by decide) (fl_dvd_of (e := 878) (k := 930) (by decide) hx.fl (Or.inr h1))
end Go.Proofs.Ytpifkjmdcbieoaa

/- Add of the landed dd: the walk. -/
namespace Go.Proofs.Ytpifkjmdcbieoaa
open Go.RowKit

/-- the temporaries behind Add's first statement -/
def addAct (x y u v A : Nat) (f : Nat → Value) : Act := { tmps := #[.agg #[.float .f64 x, .float .f64 y], .agg #[.float .f64 u, .float .f64 v], .pointer (some ⟨A, 0, none⟩), .pointer (some ⟨A + 1, 0, none⟩), .pointer (some ⟨A + 1 + 1, 0, none⟩), f 5, f 6, f 7, f 8, f 9, f 10, f 11, f 12, f 13, f 14, f 15, f 16, undef, undef, undef, undef, undef, undef, undef, undef, undef, undef, undef, undef, undef, undef, undef, undef], defers := [] }
def addCs (x y u v A : Nat) : List (Nat × Nat × Value) := [(0, 7, .pointer (some ⟨A, 0, none⟩)), (1, 8, .float .f64 x), (2, 9, .pointer (some ⟨A + 1, 0, none⟩)), (3, 10, .float .f64 u), (5, 12, .pointer (some ⟨A, 1, none⟩)), (6, 13, .float .f64 y), (7, 14, .pointer (some ⟨A + 1, 1, none⟩)), (8, 15, .float .f64 v)]
theorem duo_step (P1 P2 : Nat → Nat → Prop) (x y u v A : Nat) (w1 : World) (hA : A + 1 < w1.heap.size) (c0 : w1.cell? ⟨A, 0, none⟩ = some (.float .f64 x)) (c1 : w1.cell? ⟨A, 1, none⟩ = some (.float .f64 y)) (c2 : w1.cell? ⟨A + 1, 0, none⟩ = some (.float .f64 u)) (c3 : w1.cell? ⟨A + 1, 1, none⟩ = some (.float .f64 v))
    (S1 : ∀ w, Calls Try.prog 34 #[.float .f64 x, .float .f64 u] w fun r w' => ∃ s e, r = .returned (.agg #[.float .f64 s, .float .f64 e]) ∧ P1 s e ∧ Bel w w')
    (S2 : ∀ w, Calls Try.prog 34 #[.float .f64 y, .float .f64 v] w fun r w' => ∃ s e, r = .returned (.agg #[.float .f64 s, .float .f64 e]) ∧ P2 s e ∧ Bel w w')
    (Q : Exit → Act → World → Prop) (ops : Array Oper)
    (hops : ∃ y0 y1 y2 y3 y4 y5 y6 y7 y8 y9 y10 y11 y12 y13 q0 q1 q2 q3 q4 q5 q6 q7 q8 q9 q10 q11 q12 q13 f0 f1 f2 f3 f4 f5 f6 f7 f8 f9 f10 f11 f12 f13, ops = #[
      { dst := some 7, op := .fieldAddr 30 (.tmp 2) 0, type := y0, pos := q0, after := f0, guard := none },
      { dst := some 8, op := .load 28 (.tmp 7), type := y1, pos := q1, after := f1, guard := none },
      { dst := some 9, op := .fieldAddr 30 (.tmp 3) 0, type := y2, pos := q2, after := f2, guard := none },
      { dst := some 10, op := .load 28 (.tmp 9), type := y3, pos := q3, after := f3, guard := none },
      { dst := some 11, op := .call { callee := .value (.func 34), args := #[.tmp 8, .tmp 10], argTypes := #[28, 28] }, type := y4, pos := q4, after := f4, guard := none },
      { dst := some 12, op := .fieldAddr 30 (.tmp 2) 1, type := y5, pos := q5, after := f5, guard := none },
      { dst := some 13, op := .load 28 (.tmp 12), type := y6, pos := q6, after := f6, guard := none },
      { dst := some 14, op := .fieldAddr 30 (.tmp 3) 1, type := y7, pos := q7, after := f7, guard := none },
      { dst := some 15, op := .load 28 (.tmp 14), type := y8, pos := q8, after := f8, guard := none },
      { dst := some 16, op := .call { callee := .value (.func 34), args := #[.tmp 13, .tmp 15], argTypes := #[28, 28] }, type := y9, pos := q9, after := f9, guard := none },
      { dst := some 5, op := .alloc 30, type := y10, pos := q10, after := f10, guard := none },
      { dst := some 6, op := .alloc 30, type := y11, pos := q11, after := f11, guard := none },
      { dst := none, op := .store 30 (.tmp 5) (.tmp 11), type := y12, pos := q12, after := f12, guard := none },
      { dst := none, op := .store 30 (.tmp 6) (.tmp 16), type := y13, pos := q13, after := f13, guard := none }])
    (D : Nat → Bool) (f : Nat → Value) (w : World) (i : Nat) (hi : i < 14) (hD : D i = false) (hp : ∀ j ∈ duoPre i, D j = true) (hI : DuoI P1 P2 (addCs x y u v A) w1 D f w) :
    wpOp Try.prog ops Q i (fun a' w' => ∃ f', a' = addAct x y u v A f' ∧ DuoI P1 P2 (addCs x y u v A) w1 (fun k => D k || k == i) f' w') (addAct x y u v A f) w := by
  obtain ⟨y0, y1, y2, y3, y4, y5, y6, y7, y8, y9, y10, y11, y12, y13, q0, q1, q2, q3, q4, q5, q6, q7, q8, q9, q10, q11, q12, q13, f0, f1, f2, f3, f4, f5, f6, f7, f8, f9, f10, f11, f12, f13, rfl⟩ := hops
  have g0 := (hI.bel.cell (p := ⟨A, 0, none⟩) (by show A < _; omega)).trans c0
  have g1 := (hI.bel.cell (p := ⟨A, 1, none⟩) (by show A < _; omega)).trans c1
  have g2 := (hI.bel.cell (p := ⟨A + 1, 0, none⟩) (by show A + 1 < _; omega)).trans c2
  have g3 := (hI.bel.cell (p := ⟨A + 1, 1, none⟩) (by show A + 1 < _; omega)).trans c3
  match i, hi with
  | 0, _ => exact wpOp_go rfl rfl (step_field (d := some 7) rfl rfl rfl field_hi ⟨tset f 7 _, rfl, hI.const 0 7 _ (by simp [addCs]) (by decide) (by decide)⟩)
  | 1, _ => exact wpOp_go rfl rfl (step_load (d := some 8) rfl rfl (hI.cv (0, 7, _) (by simp [addCs]) (hp 0 (by decide))) (load_float g0) ⟨tset f 8 _, rfl, hI.const 1 8 _ (by simp [addCs]) (by decide) (by decide)⟩)
  | 2, _ => exact wpOp_go rfl rfl (step_field (d := some 9) rfl rfl rfl field_hi ⟨tset f 9 _, rfl, hI.const 2 9 _ (by simp [addCs]) (by decide) (by decide)⟩)
  | 3, _ => exact wpOp_go rfl rfl (step_load (d := some 10) rfl rfl (hI.cv (2, 9, _) (by simp [addCs]) (hp 2 (by decide))) (load_float g2) ⟨tset f 10 _, rfl, hI.const 3 10 _ (by simp [addCs]) (by decide) (by decide)⟩)
  | 4, _ =>
    refine wpOp_go rfl rfl (step_call2 (d := some 11) rfl rfl (hI.cv (1, 8, .float .f64 x) (by simp [addCs]) (hp 1 (by decide))) (hI.cv (3, 10, .float .f64 u) (by simp [addCs]) (hp 3 (by decide))) (by kernel_rfl) ?_)
    refine (S1 w).mono ?_
    rintro r w3 ⟨s, e, rfl, hv, g⟩
    exact ⟨_, rfl, tset f 11 _, rfl, hI.call1 ⟨s, e, rfl, hv⟩ g hD (by simp [addCs])⟩
  | 5, _ => exact wpOp_go rfl rfl (step_field (d := some 12) rfl rfl rfl field_lo ⟨tset f 12 _, rfl, hI.const 5 12 _ (by simp [addCs]) (by decide) (by decide)⟩)
  | 6, _ => exact wpOp_go rfl rfl (step_load (d := some 13) rfl rfl (hI.cv (5, 12, _) (by simp [addCs]) (hp 5 (by decide))) (load_float g1) ⟨tset f 13 _, rfl, hI.const 6 13 _ (by simp [addCs]) (by decide) (by decide)⟩)
  | 7, _ => exact wpOp_go rfl rfl (step_field (d := some 14) rfl rfl rfl field_lo ⟨tset f 14 _, rfl, hI.const 7 14 _ (by simp [addCs]) (by decide) (by decide)⟩)
  | 8, _ => exact wpOp_go rfl rfl (step_load (d := some 15) rfl rfl (hI.cv (7, 14, _) (by simp [addCs]) (hp 7 (by decide))) (load_float g3) ⟨tset f 15 _, rfl, hI.const 8 15 _ (by simp [addCs]) (by decide) (by decide)⟩)
  | 9, _ =>
    refine wpOp_go rfl rfl (step_call2 (d := some 16) rfl rfl (hI.cv (6, 13, .float .f64 y) (by simp [addCs]) (hp 6 (by decide))) (hI.cv (8, 15, .float .f64 v) (by simp [addCs]) (hp 8 (by decide))) (by kernel_rfl) ?_)
    refine (S2 w).mono ?_
    rintro r w3 ⟨s, e, rfl, hv, g⟩
    exact ⟨_, rfl, tset f 16 _, rfl, hI.call2 ⟨s, e, rfl, hv⟩ g hD (by simp [addCs])⟩
  | 10, _ => exact wpOp_go rfl rfl (step_alloc (d := some 5) rfl rfl ⟨tset f 5 _, rfl, hI.alloc1 hD (by simp [addCs])⟩)
  | 11, _ => exact wpOp_go rfl rfl (step_alloc (d := some 6) rfl rfl ⟨tset f 6 _, rfl, hI.alloc2 hD (by simp [addCs])⟩)
  | 12, _ =>
    have h4 := hp 4 (by decide)
    have h10 := hp 10 (by decide)
    obtain ⟨s, e, hv, _⟩ := hI.c1 h4
    obtain ⟨X, α, β, r1, r2, r3, _⟩ := hI.k1 h10
    exact wpOp_go rfl rfl (step_store (d := none) rfl rfl r1 hv r3 ⟨f, rfl, hI.store1 h4 h10 r1 r2 r3 hv (by simp [addCs])⟩)
  | 13, _ =>
    have h4 := hp 9 (by decide)
    have h10 := hp 11 (by decide)
    obtain ⟨s, e, hv, _⟩ := hI.c2 h4
    obtain ⟨X, α, β, r1, r2, r3, _⟩ := hI.k2 h10
    exact wpOp_go rfl rfl (step_store (d := none) rfl rfl r1 hv r3 ⟨f, rfl, hI.store2 h4 h10 r1 r2 r3 hv (by simp [addCs])⟩)
set_option maxHeartbeats 2000000 in
theorem add_wide (x y u v : Nat) (H L H' L' : Int) (w : World) (hx : Flt.Num x H) (hy : Flt.Num y L) (hu : Flt.Num u H') (hv : Flt.Num v L') (hi : AddIn H L) (hi' : AddIn H' L') :
    Calls Try.prog 20 #[.agg #[.float .f64 x, .float .f64 y], .agg #[.float .f64 u, .float .f64 v]] w fun r w' => ∃ s e s1 e1 t1 f1 v1 s2 e2 g Z, r = .returned (.agg #[.float .f64 s, .float .f64 e]) ∧ AddRk H L H' L' s1 e1 t1 f1 v1 s2 e2 g Z ∧ Flt.Num s (Flt.rn Z) ∧ Flt.Num e (Z - Flt.rn Z) ∧ Bel w w' := by
  have sf := run_store_float Try.prog
  obtain ⟨s1, e1, t1, f1, v1, s2, e2, g, Z, hR⟩ : ∃ s1 e1 t1 f1 v1 s2 e2 g Z, AddRk H L H' L' s1 e1 t1 f1 v1 s2 e2 g Z := ⟨_, _, _, _, _, _, _, _, _, rfl, rfl, rfl, rfl, rfl, rfl, rfl, rfl, rfl⟩
  have hds1 := kpH (hR.dvd hi hi').2
  have hkH := kpH hi.dH
  have hkH' := kpH hi'.dH
  obtain ⟨V, hV⟩ : ∃ V, V = 2 ^ 1240 := ⟨_, rfl⟩
  have hB := hR.bounds (V := V) (hV ▸ hi.le) (hV ▸ hi.le2) (hV ▸ hi'.le) (hV ▸ hi'.le2)
  have w74 : ∀ {n : Nat}, n ≤ 1048576 * V → n ≤ 2 ^ 1474 := fun h => v_le (k := 1240) (m := 1474) hV h (by decide)
  have wT : ∀ {n : Nat}, 4 * n ≤ 1048576 * V → n < 2 ^ Flt.top := fun h => Nat.lt_of_le_of_lt (v_le (k := 1240) (m := 1474) hV (Nat.le_trans (Nat.le_mul_of_pos_left _ (by decide)) h) (by decide)) (Flt.two_lt' (a := 1474) (b := Flt.top) (by decide))
  have wc : ∀ {n c : Nat}, n ≤ c * V → c ≤ 1048576 → n ≤ 2 ^ 1474 := fun h hc => w74 (Nat.le_trans h (Nat.mul_le_mul_right _ hc))
  have wi : ∀ {n : Nat}, n ≤ 2 ^ 1240 → n ≤ 2 ^ 1474 := fun h => Nat.le_trans h (Flt.two_le (a := 1240) (b := 1474) (by decide))
  have S1 := fun w => sumk_any x u H H' w hx hu (wi hi.le) (wi hi'.le)
  have S2 := fun w => sumk_any y v L L' w hy hv (wi hi.le2) (wi hi'.le2)
  rw [hkH, hkH', ← hR.r_s1, ← hR.r_e1] at S1
  rw [← hR.r_t1, ← hR.r_f1] at S2
  have A1 := fun {p q : Nat} (np : Flt.Num p e1) (nq : Flt.Num q t1) => Flt.add_rn np nq (wT (up_add hB.b_e1 hB.b_t1 (by decide)))
  rw [← hR.r_v] at A1
  have S3 := fun (p q : Nat) w (np : Flt.Num p s1) (nq : Flt.Num q v1) => sumk_any p q s1 v1 w np nq (wc hB.b_s1 (by decide)) (wc hB.b_v (by decide))
  rw [hds1, ← hR.r_s2, ← hR.r_e2] at S3
  have A2 := fun {p q : Nat} (np : Flt.Num p e2) (nq : Flt.Num q f1) => Flt.add_rn np nq (wT (up_add hB.b_e2 hB.b_f1 (by decide)))
  rw [← hR.r_g] at A2
  have S4 := fun (p q : Nat) w (np : Flt.Num p s2) (nq : Flt.Num q g) => sumk_any p q s2 g w np nq (wc hB.b_s2 (by decide)) (wc hB.b_g (by decide))
  rw [← hR.r_Z] at S4
  have T1 : ∀ w, Calls Try.prog 34 #[.float .f64 x, .float .f64 u] w fun r w' => ∃ s e, r = .returned (.agg #[.float .f64 s, .float .f64 e]) ∧ (Flt.Num s s1 ∧ Flt.Num e e1) ∧ Bel w w' := fun w => (S1 w).mono fun _ _ ⟨s, e, h1, h2, h3, h4⟩ => ⟨s, e, h1, ⟨h2, h3⟩, h4⟩
  have T2 : ∀ w, Calls Try.prog 34 #[.float .f64 y, .float .f64 v] w fun r w' => ∃ s e, r = .returned (.agg #[.float .f64 s, .float .f64 e]) ∧ (Flt.Num s t1 ∧ Flt.Num e f1) ∧ Bel w w' := fun w => (S2 w).mono fun _ _ ⟨s, e, h1, h2, h3, h4⟩ => ⟨s, e, h1, ⟨h2, h3⟩, h4⟩
  have hRH := Lib.hid hR
  have hTT := Lib.hid (And.intro T1 T2)
  clear hR hB hi hi' w74 wT wc wi hV hds1 hkH hkH' S1 S2 T1 T2 hx hy hu hv
  go_enter Try.func20, Try.ntmps20
  go_upto_region 1 with fail
  obtain ⟨w1, hw1⟩ : ∃ w1, w1 = ((w.alloc (Obj.cells #[.float .f64 x, .float .f64 y] 30)).alloc (Obj.cells #[.float .f64 u, .float .f64 v] 30)).alloc (Obj.cells #[.float .f64 0, .float .f64 0] 30) := ⟨_, rfl⟩
  have hB1 : Bel w w1 := by rw [hw1]; exact (((Bel.refl w).alloc _).alloc _).alloc _
  have tx : Two w1 w.heap.size x y := by rw [hw1]; exact ((Two.new w x y _).al _).al _
  have tu : Two w1 (w.heap.size + 1) u v := by rw [hw1]; exact (Two.newN _ u v _ _ (by simp)).al _
  have tr : Two w1 (w.heap.size + 1 + 1) 0 0 := by rw [hw1]; exact Two.newN _ 0 0 _ _ (by simp)
  have hsz : w1.heap.size = w.heap.size + 3 := by rw [hw1]; simp
  rw [← hw1]
  obtain ⟨A, hA⟩ : ∃ A, A = w.heap.size := ⟨_, rfl⟩
  rw [← hA] at tx tu tr hsz ⊢
  have hw1H := Lib.hid (And.intro hw1 hA)
  have hAw : w.heap.size ≤ A := by omega
  have hAs : A + 1 < w1.heap.size := by omega
  have hAs2 : A + 1 + 1 < w1.heap.size := by omega
  clear hw1 hA
  go_cut [5, 6] from 7 to 16 (fun p q wx => Duos (fun s e => Flt.Num s s1 ∧ Flt.Num e e1) (fun s e => Flt.Num s t1 ∧ Flt.Num e f1) w1 wx p q)
  case first =>
    refine wp_region_set (pre := duoPre) (by kernel_rfl) (by decide +kernel) (fun D a w => ∃ f, a = addAct x y u v A f ∧ DuoI (fun s e => Flt.Num s s1 ∧ Flt.Num e e1) (fun s e => Flt.Num s t1 ∧ Flt.Num e f1) (addCs x y u v A) w1 D f w) ?_ ?_ ?_
    · exact ⟨fun _ => undef, rfl, ⟨(Bel.refl w1).drew, fun _ _ h => absurd h (by decide), fun h => absurd h (by decide), fun h => absurd h (by decide), fun h => absurd h (by decide), fun h => absurd h (by decide), fun h => absurd h (by decide), fun h => absurd h (by decide), fun h => absurd h (by decide)⟩⟩
    · rintro D a wx i hi hD hp ⟨f, rfl, hI⟩
      exact duo_step _ _ x y u v A w1 hAs tx.c0 tx.c1 tu.c0 tu.c1 hTT.out.1 hTT.out.2 _ _ ⟨_, _, _, _, _, _, _, _, _, _, _, _, _, _, _, _, _, _, _, _, _, _, _, _, _, _, _, _, _, _, _, _, _, _, _, _, _, _, _, _, _, _, rfl⟩ D f wx i hi hD hp hI
    · rintro D a wx hD ⟨f, rfl, hI⟩
      have hW := hI.whole hD
      unfold addAct
      go_wp2
      go_meet
      exact hW
  case rest =>
    obtain ⟨X, Y, p1, q1, p2, q2, rfl, rfl, hne, hX, hY, tX, tY, hBc, ⟨np1, nq1⟩, ⟨np2, nq2⟩⟩ := hcut
    have lX := tX.lt
    have lY := tY.lt
    have tr := tr.by hBc
    obtain ⟨p3, m3, np3⟩ := A1 nq1 np2
    have o3 := fun w => run_fadd (P := Try.prog) 28 m3 w
    have S3 := fun w => S3 p1 p3 w np1 np3
    obtain ⟨R, hR⟩ : ∃ R, R = A + 1 + 1 := ⟨_, rfl⟩
    rw [← hR] at tr ⊢
    have hRw : w.heap.size ≤ R := by omega
    have hXR : R ≠ X := by omega
    have hYR : R ≠ Y := by omega
    have hXw : w.heap.size ≤ X := by omega
    have hYw : w.heap.size ≤ Y := by omega
    have hBc := hB1.trans hBc
    clear hX hY hAs hAs2 hAw hsz hw1H hB1 tx tu A1 np1 nq1 np2 np3 m3 hR hTT
    have x0 := tX.c0
    have x1 := tX.c1
    have fx0 := tX.z0
    have fx1 := tX.z1
    have y0 := tY.c0
    have y1 := tY.c1
    go_wp2_with fail
    refine (S3 _).mono ?_; rintro r w2 ⟨p4, q4, rfl, np4, nq4, hB2⟩
    have tX2 := (tX.by hB2).set p4 q4
    obtain ⟨mX1, mX2⟩ := (tX.by hB2).mid p4
    have tX' := tX.by hB2
    have z0 := tX'.c0
    have zf0 := tX'.z0
    obtain ⟨p5, m5, np5⟩ := A2 nq4 nq2
    have o5 := fun w => run_fadd (P := Try.prog) 28 m5 w
    have tY2 := (tY.by hB2).so (fun e => hne e.symm) (.float .f64 p4) (.float .f64 q4)
    have tr2 := (tr.by hB2).so hXR (.float .f64 p4) (.float .f64 q4)
    have hBc2 := ((hBc.trans hB2).setCell (p := ⟨X, 0, none⟩) hXw (.float .f64 p4)).setCell (p := ⟨X, 1, none⟩) hXw (.float .f64 q4)
    have S4 := fun w => S4 p4 p5 w np4 np5
    have u0 := tX2.c0
    have u1 := tX2.c1
    have v0 := tY2.c0
    have v1' := tY2.c1
    clear x0 x1 fx0 fx1 y0 y1 S3 A2 np4 nq4 np5 m5
    go_wp2_with fail
    refine (S4 _).mono ?_; rintro r w3 ⟨p6, q6, rfl, np6, nq6, hB3⟩
    have tr3 := tr2.by hB3
    obtain ⟨m1, m2⟩ := tr3.mid p6
    obtain ⟨d0, d1, _, _⟩ := tr3.set p6 q6
    obtain ⟨c0, c1, g0, g1⟩ := tr3
    have nH := Lib.hid (And.intro np6 nq6)
    have hBw := hBc2.trans hB3
    clear np6 nq6 S4 u0 u1 v0 v1'
    go_wp2
    refine bodyPost_ret (by simp [results, go_sem, d0, d1]; try rfl) rfl ?_
    exact ⟨p6, q6, _, _, _, _, _, _, _, _, _, rfl, hRH.out, nH.out.1, nH.out.2, (hBw.setCell hRw _).setCell hRw _⟩
end Go.Proofs.Ytpifkjmdcbieoaa

/- Layer 4: how far a product of two numbers of two floats is from the exact one. Over whole numbers. No program is named here. -/
namespace Flt

theorem mul_bound {K B q1 q2 q3 e d1 d2 m1 m2 dc c df : Nat} (hK : 4 ≤ K) (he : e * K ≤ B) (h1 : q1 * K ≤ 2 * B) (h2 : q2 * K ≤ 2 * B) (h3 : q3 * K * K ≤ 4 * B) (hd1 : d1 * K ≤ q1) (hd2 : d2 * K ≤ q2) (hm1 : m1 ≤ q1 + d1) (hm2 : m2 ≤ q2 + d2)
    (hdc : dc * K ≤ m1 + m2) (hc : c ≤ m1 + m2 + dc) (hdf : df * K ≤ e + c) : (df + dc + d1 + d2 + q3) * K * K ≤ 64 * B := by
  have k4 : ∀ x, 4 * x ≤ x * K := fun x => by rw [Nat.mul_comm]; exact Nat.mul_le_mul_left x hK
  have a1 := mul_le_r (K := K) hd1
  have a2 := mul_le_r (K := K) hd2
  have a3 := mul_le_r (K := K) hdc
  have a4 := mul_le_r (K := K) hdf
  have a5 := mul_le_r (K := K) hm1
  have a6 := mul_le_r (K := K) hm2
  have a7 := mul_le_r (K := K) hc
  rw [Nat.add_mul] at a3 a4 a5 a6
  rw [Nat.add_mul, Nat.add_mul] at a7
  rw [Nat.add_mul, Nat.add_mul, Nat.add_mul, Nat.add_mul, Nat.add_mul, Nat.add_mul, Nat.add_mul, Nat.add_mul]
  have k1 := k4 (d1 * K)
  have k2 := k4 (d2 * K)
  have k3 := k4 (dc * K)
  have k5 := k4 (df * K)
  have k6 := k4 (d1)
  have k7 := k4 (d2)
  have k8 := k4 dc
  omega
theorem natAbs_uE (n : Int) : (n * 2 ^ uE).natAbs = n.natAbs * 2 ^ uE := by rw [Int.natAbs_mul, natAbs_two]
/-- a partial product with a second part -/
theorem part_lo {H P Q a b : Int} (hP : H * a = P * 2 ^ uE) (hQ : H * b = Q * 2 ^ uE) (h : b.natAbs * K53 ≤ 2 * a.natAbs) : Q.natAbs * K53 ≤ 2 * P.natAbs := by
  have e1 := natAbs_uE P
  have e2 := natAbs_uE Q
  rw [← hP, Int.natAbs_mul] at e1
  rw [← hQ, Int.natAbs_mul] at e2
  have hU0 := two_posN uE
  obtain ⟨U, hU⟩ : ∃ U, U = 2 ^ uE := ⟨_, rfl⟩
  rw [← hU] at e1 e2 hU0
  refine Nat.le_of_mul_le_mul_right ?_ hU0
  clear hP hQ hU
  calc Q.natAbs * K53 * U = Q.natAbs * U * K53 := by ac_rfl
    _ = H.natAbs * (b.natAbs * K53) := by rw [← e2]; ac_rfl
    _ ≤ H.natAbs * (2 * a.natAbs) := Nat.mul_le_mul_left _ h
    _ = 2 * (H.natAbs * a.natAbs) := by ac_rfl
    _ = 2 * P.natAbs * U := by rw [e1]; ac_rfl
theorem lo_le {H L : Int} (h : rn (H + L) = H) : L.natAbs * K53 ≤ 2 * H.natAbs := by
  have h1 := near_lo h
  have h2 : 4 * L.natAbs ≤ L.natAbs * K53 := by rw [Nat.mul_comm]; exact Nat.mul_le_mul_left _ K53_ge
  omega
/-- the product by one without an error, the two middle products, their sum, and another: the error -/
theorem mul_err {H L H' L' P Q1 Q2 Q3 p e m1 m2 c f : Int} (hL : rn (H + L) = H) (hL' : rn (H' + L') = H') (hP : H * H' = P * 2 ^ uE) (h1 : H * L' = Q1 * 2 ^ uE) (h2 : L * H' = Q2 * 2 ^ uE) (h3 : L * L' = Q3 * 2 ^ uE)
    (n1 : Near P p) (x1 : p + e = P) (n2 : Near Q1 m1) (n3 : Near Q2 m2) (n4 : Near (m1 + m2) c) (n5 : Near (e + c) f) : (p + f - (P + Q1 + Q2 + Q3)).natAbs * K53 * K53 ≤ 64 * P.natAbs := by
  have a1 := part_lo hP h1 (lo_le hL')
  have a2 := part_lo (H := H') (P := P) (Q := Q2) (a := H) (b := L) (by rw [Int.mul_comm]; exact hP) (by rw [Int.mul_comm]; exact h2) (lo_le hL)
  have a3 := part_lo (H := L) (P := Q2) (Q := Q3) (a := H') (b := L') h2 h3 (lo_le hL')
  have a4 : Q3.natAbs * K53 * K53 ≤ 4 * P.natAbs := by
    have := mul_le_r (K := K53) a3
    rw [Nat.mul_assoc 2] at this
    omega
  have b := mul_bound (B := P.natAbs) (q1 := Q1.natAbs) (q2 := Q2.natAbs) (q3 := Q3.natAbs) (e := e.natAbs) (d1 := (m1 - Q1).natAbs) (d2 := (m2 - Q2).natAbs) (m1 := m1.natAbs) (m2 := m2.natAbs) (dc := (c - (m1 + m2)).natAbs) (c := c.natAbs) (df := (f - (e + c)).natAbs) K53_ge
    (near_part n1 x1) a1 a2 a4 n2.relK n3.relK (by omega) (by omega) (Nat.le_trans n4.relK (by omega)) (by omega) (Nat.le_trans n5.relK (by omega))
  exact Nat.le_trans (Nat.mul_le_mul_right _ (Nat.mul_le_mul_right _ (by omega))) b
end Flt

/- Products of mild floats and what they lack, in words. No program is named here. -/
namespace Flt
open Ieee

/-- a number and its two halves, in words: over the last place e, or all 0 -/
structure HalfW (x h l : Nat) (n : Int) : Prop where
  x : Num x n
  ex : (n = 0 ∧ Num h 0 ∧ Num l 0) ∨ ∃ (e : Nat) (A H L : Int), 600 ≤ e ∧ e ≤ 1500 ∧ n = A * 2 ^ e ∧ Num h (H * 2 ^ e) ∧ Num l (L * 2 ^ e) ∧ HalvesU A H L

/-- the operations of a product -/
structure ProdW (x y h l g m p e : Nat) (π ε : Int) : Prop where
  hp : double.mul x y = some p
  np : Num p π
  ne : Num e ε
  ops : ∃ hg t1 hm t2 lg t3 lm, double.mul h g = some hg ∧ double.sub hg p = some t1 ∧ double.mul h m = some hm ∧ double.add t1 hm = some t2 ∧ double.mul l g = some lg ∧ double.add t2 lg = some t3 ∧ double.mul l m = some lm ∧ double.add t3 lm = some e

theorem le_of_units {X : Int} {k : Nat} (h : X.natAbs ≤ 2 ^ 107) : (X * 2 ^ k).natAbs ≤ 2 ^ (107 + k) := by
  rw [shift_abs, Nat.pow_add]; exact Nat.mul_le_mul_right _ h
theorem prod_words {x h l y g m : Nat} {a b : Int} (hx : HalfW x h l a) (hy : HalfW y g m b) : ∃ p e π ε, ProdW x y h l g m p e π ε ∧ a * b = (π + ε) * 2 ^ uE ∧ ∃ P, a * b = P * 2 ^ uE ∧ Near P π := by
  have zsub : ∀ {x y : Nat}, Num x 0 → Num y 0 → ∃ r, double.sub x y = some r ∧ Num r 0 := by
    intro x y h h'
    obtain ⟨r, z, h1, h2, h3, _⟩ := subx (k := 0) h h' (by decide) (by decide) (by decide)
    have hz : z = 0 := near_zero (by simpa using h3)
    exact ⟨r, h1, hz ▸ h2⟩
  have zadd : ∀ {x y : Nat}, Num x 0 → Num y 0 → ∃ r, double.add x y = some r ∧ Num r 0 := by
    intro x y h h'
    obtain ⟨r, z, h1, h2, h3, _⟩ := addx (k := 0) h h' (by decide) (by decide) (by decide)
    have hz : z = 0 := near_zero (by simpa using h3)
    exact ⟨r, h1, hz ▸ h2⟩
  -- where a factor is 0
  have zero : ∀ {hg' : Nat}, (∀ {u v : Nat}, (u = h ∨ u = l) → (v = g ∨ v = m) → ∃ r, double.mul u v = some r ∧ Num r 0) → (a = 0 ∨ b = 0) → hg' = 0 → ∃ p e π ε, ProdW x y h l g m p e π ε ∧ a * b = (π + ε) * 2 ^ uE ∧ ∃ P, a * b = P * 2 ^ uE ∧ Near P π := by
    intro _ hmul hab _
    obtain ⟨p, p1, p2⟩ := mul0 hx.x hy.x hab
    obtain ⟨hg, q1, q2⟩ := hmul (Or.inl rfl) (Or.inl rfl)
    obtain ⟨hm, q3, q4⟩ := hmul (Or.inl rfl) (Or.inr rfl)
    obtain ⟨lg, q5, q6⟩ := hmul (Or.inr rfl) (Or.inl rfl)
    obtain ⟨lm, q7, q8⟩ := hmul (Or.inr rfl) (Or.inr rfl)
    obtain ⟨t1, r1, r2⟩ := zsub q2 p2
    obtain ⟨t2, r3, r4⟩ := zadd r2 q4
    obtain ⟨t3, r5, r6⟩ := zadd r4 q6
    obtain ⟨e, r7, r8⟩ := zadd r6 q8
    have hz : a * b = 0 := Int.mul_eq_zero.2 hab
    refine ⟨p, e, 0, 0, ⟨p1, p2, r8, hg, t1, hm, t2, lg, t3, lm, q1, r1, q3, r3, q5, r5, q7, r7⟩, ?_, 0, ?_, fl_zero, fun y _ => by omega⟩
    · rw [hz, Int.add_zero, Int.zero_mul]
    · rw [hz, Int.zero_mul]
  rcases hx.ex with ⟨rfl, nh, nl⟩ | ⟨e, A, H, L, e1, e2, hA, nh, nl, HX⟩
  · refine zero (hg' := 0) ?_ (Or.inl rfl) rfl
    intro u v hu hv
    have nu : Num u 0 := by rcases hu with rfl | rfl; exact nh; exact nl
    have nv : ∃ c, Num v c := by
      rcases hy.ex with ⟨_, ng, nm⟩ | ⟨f, B, G, M, _, _, _, ng, nm, _⟩ <;> rcases hv with rfl | rfl
      · exact ⟨_, ng⟩
      · exact ⟨_, nm⟩
      · exact ⟨_, ng⟩
      · exact ⟨_, nm⟩
    obtain ⟨c, nv⟩ := nv
    exact mul0 nu nv (Or.inl rfl)
  · rcases hy.ex with ⟨rfl, ng, nm⟩ | ⟨f, B, G, M, f1, f2, hB, ng, nm, HY⟩
    · refine zero (hg' := 0) ?_ (Or.inr rfl) rfl
      intro u v hu hv
      have nv : Num v 0 := by rcases hv with rfl | rfl; exact ng; exact nm
      rcases hu with rfl | rfl
      · exact mul0 nh nv (Or.inr rfl)
      · exact mul0 nl nv (Or.inr rfl)
    · have hu : uE = 1074 := rfl
      obtain ⟨k, hk⟩ : ∃ k, e + f = k + uE := ⟨e + f - uE, by omega⟩
      have hk2 : k ≤ 1926 := by omega
      have nx := hx.x
      have ny := hy.x
      rw [hA] at nx
      rw [hB] at ny
      have A53 : A.natAbs ≤ 2 ^ 53 := Nat.le_of_lt HX.lt
      have B53 : B.natAbs ≤ 2 ^ 53 := Nat.le_of_lt HY.lt
      have L53 : L.natAbs ≤ 2 ^ 53 := Nat.le_trans HX.lo_le (by decide)
      have M53 : M.natAbs ≤ 2 ^ 53 := Nat.le_trans HY.lo_le (by decide)
      obtain ⟨p, π, p1, p2, p3, p4⟩ := mulx nx ny A53 B53 e1 f1 hk (by omega)
      have D := dekker HX HY p3
      obtain ⟨hg, z1, q1, q2, q3, q4⟩ := mulx nh ng HX.le HY.le e1 f1 hk (by omega)
      obtain ⟨hm, z2, q5, q6, q7, q8⟩ := mulx nh nm HX.le M53 e1 f1 hk (by omega)
      obtain ⟨lg, z3, q9, q10, q11, q12⟩ := mulx nl ng L53 HY.le e1 f1 hk (by omega)
      obtain ⟨lm, z4, q13, q14, q15, q16⟩ := mulx nl nm L53 M53 e1 f1 hk (by omega)
      have E1 := q3.self D.hg
      have E2 := q7.self D.hm
      have E3 := q11.self D.lg
      have E4 := q15.self D.lm
      obtain ⟨t1, y1, r1, r2, r3, r4⟩ := subx q2 p2 q4 p4 (by omega)
      have F1 := r3.self (by rw [E1]; exact D.t1)
      obtain ⟨t2, y2, r5, r6, r7, r8⟩ := addx r2 q6 r4 (Nat.le_trans q8 (two_le (by omega))) (by omega)
      have F2 := r7.self (by rw [F1, E1, E2]; exact D.t2)
      obtain ⟨t3, y3, r9, r10, r11, r12⟩ := addx r6 q10 r8 (Nat.le_trans q12 (two_le (by omega))) (by omega)
      have F3 := r11.self (by rw [F2, F1, E1, E2, E3]; exact D.t3)
      obtain ⟨t4, y4, r13, r14, r15, r16⟩ := addx r10 q14 r12 (Nat.le_trans q16 (two_le (by omega))) (by omega)
      have hs := D.sum
      have F4 := r15.self (by
        have : y3 + z4 = A * B * 2 ^ k - π := by omega
        rw [this]; exact D.err)
      have hab : a * b = A * B * 2 ^ k * 2 ^ uE := by
        rw [hA, hB, Int.mul_assoc (A * B), ← Int.pow_add, ← hk, Int.pow_add]; ac_rfl
      refine ⟨p, t4, π, y4, ⟨p1, p2, r14, hg, t1, hm, t2, lg, t3, lm, q1, r1, q5, r5, q9, r9, q13, r13⟩, ?_, _, hab, p3⟩
      have : π + y4 = A * B * 2 ^ k := by omega
      rw [this]; exact hab
end Flt

/- Words of products of floats that are neither too small nor too great: a product to the nearest, and what divides it. No program is named here. -/
namespace Flt
open Ieee

theorem two_ge {k j n : Nat} (hk : k = j) (h : 2 ^ k ≤ n) : 2 ^ j ≤ n := by subst hk; exact h
/-- 0, or from 2^(52 + e0) on, below 2^1300 -/
def FromN (e0 : Nat) (a : Int) : Prop := a = 0 ∨ (2 ^ (52 + e0) ≤ a.natAbs ∧ a.natAbs < 2 ^ 1400)
theorem FromN.of {k e0 : Nat} {n : Int} (hk : k = 52 + e0) (h : 2 ^ k ≤ n.natAbs) (h2 : n.natAbs < 2 ^ 1400) : FromN e0 n := Or.inr ⟨two_ge hk h, h2⟩
theorem FromN.place {e0 : Nat} {a : Int} (ha : FromN e0 a) (h0 : a ≠ 0) (hf : FL a) : ∃ (e : Nat) (X : Int), a = X * 2 ^ e ∧ X.natAbs ≤ 2 ^ 53 ∧ e0 ≤ e ∧ e ≤ 1348 := by
  rcases ha with h | ⟨h1, h2⟩
  · exact absurd h h0
  · obtain ⟨e, hd, hlt, hc⟩ := canon hf
    have e1 := two_lt (Nat.lt_of_le_of_lt h1 hlt)
    obtain ⟨X, hX⟩ := hd
    rw [Int.mul_comm] at hX
    have b1 : X.natAbs ≤ 2 ^ 53 := by
      rw [hX, shift_abs, Nat.pow_add] at hlt
      exact Nat.le_of_lt (Nat.lt_of_mul_lt_mul_right hlt)
    refine ⟨e, X, hX, b1, by omega, ?_⟩
    rcases hc with h | h
    · omega
    · have := two_lt (Nat.lt_of_le_of_lt h h2)
      omega
theorem mul_from {x y : Nat} {a b : Int} {e0 f0 : Nat} (hx : Num x a) (hy : Num y b) (ha : FromN e0 a) (hb : FromN f0 b) (he : 600 ≤ e0) (hf : 600 ≤ f0) :
    ∃ (T : Int) (r : Nat) (z : Int), a * b = T * 2 ^ uE ∧ double.mul x y = some r ∧ Num r z ∧ Near T z ∧ (2 : Int) ^ (e0 + f0 - uE) ∣ T := by
  by_cases h0 : a = 0 ∨ b = 0
  · obtain ⟨r, k1, k2⟩ := mul0 hx hy h0
    refine ⟨0, r, 0, ?_, k1, k2, ?_, Int.dvd_zero _⟩
    · rcases h0 with h | h
      · rw [h]; simp
      · rw [h]; simp
    · have := rn_near 0
      rwa [rn_zero] at this
  · obtain ⟨e, X, hX, b1, e1, e2⟩ := ha.place (fun h => h0 (Or.inl h)) hx.fl
    obtain ⟨f, Y, hY, b2, f1, f2⟩ := hb.place (fun h => h0 (Or.inr h)) hy.fl
    have hu : uE = 1074 := rfl
    obtain ⟨k, hk⟩ : ∃ k, e + f = k + uE := ⟨e + f - uE, by omega⟩
    obtain ⟨r, z, k1, k2, k3, _⟩ := mulx (hX ▸ hx) (hY ▸ hy) b1 b2 (by omega) (by omega) hk (by omega)
    refine ⟨X * Y * 2 ^ k, r, z, ?_, k1, k2, k3, ?_⟩
    · rw [hX, hY, Int.mul_assoc (X * Y), ← Int.pow_add, ← hk, Int.pow_add]; ac_rfl
    · exact two_dvd_of_le (by omega) (Int.dvd_mul_left _ _)
theorem ge_uE {a b c p h k : Nat} (hc : c + uE = a + b) (ha : 2 ^ a ≤ h) (hb : 2 ^ b ≤ k) (hp : p * 2 ^ uE = h * k) : 2 ^ c ≤ p := by
  have h1 := Nat.mul_le_mul ha hb
  rw [← Nat.pow_add, ← hc, Nat.pow_add, ← hp] at h1
  exact Nat.le_of_mul_le_mul_right h1 (two_posN uE)
theorem le_uE {a b c p h k : Nat} (hc : c + uE = a + b) (ha : h ≤ 2 ^ a) (hb : k ≤ 2 ^ b) (hp : p * 2 ^ uE = h * k) : p ≤ 2 ^ c := by
  have h1 := Nat.mul_le_mul ha hb
  rw [← Nat.pow_add, ← hc, Nat.pow_add, ← hp] at h1
  exact Nat.le_of_mul_le_mul_right h1 (two_posN uE)
end Flt

/- Layer 4: a product of two tame numbers: sizes, what divides, the error. Over whole numbers. No program is named here. -/
namespace Go.Proofs.Ytpifkjmdcbieoaa
open Go.RowKit

theorem K53_k : 64 ≤ Flt.K53 := by rw [Flt.K53_eq]; decide
theorem TameN.from {H L : Int} (h : Flt.TameN H L) : Flt.FromN 878 H ∧ Flt.FromN 622 L := by
  have h0 := TameN.up h
  rcases h with ⟨h1, h2⟩ | ⟨h1, h2, h3, h4⟩
  · exact ⟨Or.inl h1, Or.inl h2⟩
  · refine ⟨Flt.FromN.of (k := 930) (e0 := 878) (by decide) h1 (Nat.lt_of_le_of_lt h0.1 (Flt.two_lt' (a := 1220) (b := 1400) (by decide))), ?_⟩
    rcases h4 with h4 | h4
    · exact Or.inl h4
    · exact Flt.FromN.of (k := 674) (e0 := 622) (by decide) h4 (Nat.lt_of_le_of_lt h0.2 (Flt.two_lt' (a := 1220) (b := 1400) (by decide)))
/-- the product, by its parts -/
structure MulR (H L H' L' P Q1 Q2 Q3 p e m1 m2 c f : Int) : Prop where
  rL : Flt.rn (H + L) = H
  rL' : Flt.rn (H' + L') = H'
  hP : H * H' = P * 2 ^ Flt.uE
  h1 : H * L' = Q1 * 2 ^ Flt.uE
  h2 : L * H' = Q2 * 2 ^ Flt.uE
  h3 : L * L' = Q3 * 2 ^ Flt.uE
  n1 : Flt.Near P p
  x1 : p + e = P
  n2 : Flt.Near Q1 m1
  n3 : Flt.Near Q2 m2
  rc : c = Flt.rn (m1 + m2)
  rf : f = Flt.rn (e + c)
theorem MulR.bound {H L H' L' P Q1 Q2 Q3 p e m1 m2 c f : Int} (h : MulR H L H' L' P Q1 Q2 Q3 p e m1 m2 c f) : (p + f - (P + Q1 + Q2 + Q3)).natAbs * Flt.K53 * Flt.K53 ≤ 64 * P.natAbs :=
  Flt.mul_err h.rL h.rL' h.hP h.h1 h.h2 h.h3 h.n1 h.x1 h.n2 h.n3 (h.rc ▸ Flt.rn_near _) (h.rf ▸ Flt.rn_near _)
theorem small_of {q K P : Nat} (hK : 64 ≤ K) (h : q * K ≤ 2 * P) : q * 32 ≤ P := by
  have := Nat.mul_le_mul_left q hK
  omega
theorem small_of2 {q K P : Nat} (hK : 64 ≤ K) (h : q * K * K ≤ 64 * P) : q * 32 ≤ P := by
  have h1 := Nat.mul_le_mul_left (q * K) hK
  have h2 := Nat.mul_le_mul_left q hK
  omega
theorem MulR.lo {H L H' L' P Q1 Q2 Q3 p e m1 m2 c f : Int} (h : MulR H L H' L' P Q1 Q2 Q3 p e m1 m2 c f) : Q1.natAbs * 32 ≤ P.natAbs ∧ Q2.natAbs * 32 ≤ P.natAbs ∧ Q3.natAbs * 32 ≤ P.natAbs ∧ (p + f - (P + Q1 + Q2 + Q3)).natAbs * 32 ≤ P.natAbs := by
  have a1 := small_of K53_k (Flt.part_lo h.hP h.h1 (Flt.lo_le h.rL'))
  have a2 := small_of K53_k (Flt.part_lo (H := H') (P := P) (Q := Q2) (a := H) (b := L) (by rw [Int.mul_comm]; exact h.hP) (by rw [Int.mul_comm]; exact h.h2) (Flt.lo_le h.rL))
  have a3 := small_of K53_k (Flt.part_lo (H := L) (P := Q2) (Q := Q3) (a := H') (b := L') h.h2 h.h3 (Flt.lo_le h.rL'))
  exact ⟨a1, a2, by omega, small_of2 K53_k h.bound⟩
theorem MulR.near {H L H' L' P Q1 Q2 Q3 p e m1 m2 c f : Int} (h : MulR H L H' L' P Q1 Q2 Q3 p e m1 m2 c f) : (p + f - P).natAbs * 8 ≤ P.natAbs := by
  obtain ⟨a1, a2, a3, a4⟩ := h.lo
  have k1 : (Q1 + Q2).natAbs * 32 ≤ 2 * P.natAbs := by omega
  have k2 : (Q1 + Q2 + Q3).natAbs * 32 ≤ 3 * P.natAbs := by omega
  clear a1 a2 a3 k1
  have k3 : (p + f - P).natAbs * 32 ≤ 4 * P.natAbs := by omega
  omega
theorem MulR.dvd {H L H' L' P Q1 Q2 Q3 p e m1 m2 c f : Int} {k : Nat} (h : MulR H L H' L' P Q1 Q2 Q3 p e m1 m2 c f) (dP : (2 : Int) ^ k ∣ P) (d1 : (2 : Int) ^ k ∣ Q1) (d2 : (2 : Int) ^ k ∣ Q2) : (2 : Int) ^ k ∣ p + f := by
  have a1 := h.n1.dvd dP
  have a2 : (2 : Int) ^ k ∣ e := by
    have := Int.dvd_sub dP a1
    rwa [show P - p = e from by have := h.x1; omega] at this
  have a3 : (2 : Int) ^ k ∣ c := h.rc ▸ rn_dvd (Int.dvd_add (h.n2.dvd d1) (h.n3.dvd d2))
  have a4 : (2 : Int) ^ k ∣ f := h.rf ▸ rn_dvd (Int.dvd_add a2 a3)
  exact Int.dvd_add a1 a4
/-- what a rounding leaves of a number: at least half -/
theorem rn_ge2 (n : Int) : n.natAbs ≤ 2 * (Flt.rn n).natAbs := by
  have h := (Flt.rn_near n).relK
  have h3 : 4 * (Flt.rn n - n).natAbs ≤ (Flt.rn n - n).natAbs * Flt.K53 := by rw [Nat.mul_comm]; exact Nat.mul_le_mul_left _ Flt.K53_ge
  omega
theorem MulR.ge {H L H' L' P Q1 Q2 Q3 p e m1 m2 c f : Int} (h : MulR H L H' L' P Q1 Q2 Q3 p e m1 m2 c f) : P.natAbs ≤ 4 * (Flt.rn (p + f)).natAbs := by
  have h1 := h.near
  have h2 := rn_ge2 (p + f)
  omega
/-- sizes -/
theorem MulR.le {H L H' L' P Q1 Q2 Q3 p e m1 m2 c f : Int} (h : MulR H L H' L' P Q1 Q2 Q3 p e m1 m2 c f) : p.natAbs ≤ 2 * P.natAbs ∧ e.natAbs ≤ 4 * P.natAbs ∧ m1.natAbs ≤ 2 * P.natAbs ∧ m2.natAbs ≤ 2 * P.natAbs ∧ c.natAbs ≤ 8 * P.natAbs ∧ f.natAbs ≤ 32 * P.natAbs := by
  obtain ⟨a1, a2, _, _⟩ := h.lo
  have n2 : ∀ {n z : Int}, Flt.Near n z → z.natAbs ≤ 2 * n.natAbs := fun {n z} hz => by
    have h := hz.relK
    have h3 : 4 * (z - n).natAbs ≤ (z - n).natAbs * Flt.K53 := by rw [Nat.mul_comm]; exact Nat.mul_le_mul_left _ Flt.K53_ge
    omega
  have b1 := n2 h.n1
  have b2 := n2 h.n2
  have b3 := n2 h.n3
  have b4 : e.natAbs ≤ 4 * P.natAbs := by have := h.x1; omega
  have b5 : m1.natAbs ≤ 2 * P.natAbs := by omega
  have b6 : m2.natAbs ≤ 2 * P.natAbs := by omega
  have b7 : c.natAbs ≤ 8 * P.natAbs := h.rc ▸ na_rn (na_add b5 b6 (Nat.le_refl _)) (by omega)
  have b8 : f.natAbs ≤ 32 * P.natAbs := h.rf ▸ na_rn (na_add b4 b7 (Nat.le_refl _)) (by omega)
  exact ⟨b1, b4, b5, b6, b7, b8⟩
/-- how great the product of the first parts is -/
theorem prod_size {H L H' L' P : Int} (hT : Flt.TameN H L) (hT' : Flt.TameN H' L') (hP : H * H' = P * 2 ^ Flt.uE) : (P = 0 ∨ 2 ^ 786 ≤ P.natAbs) ∧ P.natAbs ≤ 2 ^ 1366 := by
  have hPa : P.natAbs * 2 ^ Flt.uE = H.natAbs * H'.natAbs := by rw [← Flt.natAbs_uE, ← hP, Int.natAbs_mul]
  have hu := TameN.up hT
  have hu' := TameN.up hT'
  constructor
  · rcases hT with ⟨h, _⟩ | ⟨h1, _, _, _⟩
    · left
      rw [h, Int.zero_mul] at hP
      rcases Int.mul_eq_zero.1 hP.symm with k | k
      · exact k
      · exact absurd k (Int.ne_of_gt (Flt.two_pos _))
    · rcases hT' with ⟨h, _⟩ | ⟨h1', _, _, _⟩
      · left
        rw [h, Int.mul_zero] at hP
        rcases Int.mul_eq_zero.1 hP.symm with k | k
        · exact k
        · exact absurd k (Int.ne_of_gt (Flt.two_pos _))
      · right
        exact Flt.ge_uE (a := 930) (b := 930) (c := 786) (by decide) h1 h1' hPa
  · exact Flt.le_uE (a := 1220) (b := 1220) (c := 1366) (by decide) hu.1 hu'.1 hPa
end Go.Proofs.Ytpifkjmdcbieoaa

/- Mild numbers (layer 3). No program is named here. -/
namespace Go.Proofs.Ytpifkjmdcbieoaa
open Go.RowKit

/-- mild: 0, or from 2^-400 to below 2^400, in units of 2^-1074 -/
def mlo : Nat := 674
def mhi : Nat := 1474
def MildN (n : Int) : Prop := n = 0 ∨ (2 ^ mlo ≤ n.natAbs ∧ n.natAbs < 2 ^ mhi)
theorem pw_lo {X a j i k : Nat} (h : 2 ^ a ≤ X) (hj : j ≤ i) (hk : k = a + j) : 2 ^ k ≤ X * 2 ^ i := by
  rw [hk, Nat.pow_add]; exact Nat.mul_le_mul h (Nat.pow_le_pow_right (by decide) hj)
theorem pw_hi {X a j i k : Nat} (h : X < 2 ^ a) (hj : i ≤ j) (hk : k = a + j) : X * 2 ^ i < 2 ^ k := by
  have h1 : X * 2 ^ i < 2 ^ a * 2 ^ i := Nat.mul_lt_mul_of_pos_right h (Nat.pow_pos (by decide))
  rw [← Nat.pow_add] at h1
  rw [hk]
  exact Nat.lt_of_lt_of_le h1 (Nat.pow_le_pow_right (by decide) (by omega))
end Go.Proofs.Ytpifkjmdcbieoaa

/- Layer 4's landed dd: a product of two numbers, by what is kept: sizes, what divides, the error. Over whole numbers. No program is named here. -/
namespace Go.Proofs.Ytpifkjmdcbieoaa
open Go.RowKit

theorem TameN.mild {H L : Int} (h : Flt.TameN H L) : MildN H := by
  rcases h with ⟨h, _⟩ | ⟨h1, h2, _, _⟩
  · exact Or.inl h
  · exact Or.inr ⟨Nat.le_trans (Flt.two_le (a := mlo) (b := 930) (by decide)) h1, Nat.lt_of_lt_of_le h2 (Flt.two_le (a := 1220) (b := mhi) (by decide))⟩
theorem uE_cancel {a b : Int} (h : a * 2 ^ Flt.uE = b * 2 ^ Flt.uE) : a = b := Int.eq_of_mul_eq_mul_right (Int.ne_of_gt (Flt.two_pos _)) h
/-- a product's parts, and what is kept of them -/
structure MulRk (H L H' L' P Q1 Q2 Q3 p e m1 m2 c f Z : Int) : Prop where
  R : MulR H L H' L' P Q1 Q2 Q3 p e m1 m2 c f
  hP : P = 0 ∨ 2 ^ 786 ≤ P.natAbs
  rZ : Z = kp p + kp f
  fp : Flt.FL p
  ff : Flt.FL f
section
variable {H L H' L' P Q1 Q2 Q3 p e m1 m2 c f Z : Int}
theorem near_ge2 {n z : Int} (hz : Flt.Near n z) : n.natAbs ≤ 2 * z.natAbs := by
  have h := hz.relK
  have h3 : 4 * (z - n).natAbs ≤ (z - n).natAbs * Flt.K53 := by rw [Nat.mul_comm]; exact Nat.mul_le_mul_left _ Flt.K53_ge
  omega
theorem half {s P : Nat} {k j : Nat} (hj : j = k + 1) (h : P ≤ 2 * s) (hP : 2 ^ j ≤ P) : 2 ^ k ≤ s := by
  rw [hj, Nat.pow_add] at hP
  omega
theorem MulRk.kpp (h : MulRk H L H' L' P Q1 Q2 Q3 p e m1 m2 c f Z) : kp p = p := by
  rcases h.hP with h0 | h0
  · have h1 := h.R.le.1
    rw [h0] at h1
    exact kp_id (k := 674) (by decide) (Or.inl (by omega))
  · have h1 := half (k := 785) (j := 786) (by decide) (near_ge2 h.R.n1) h0
    exact kp_id (k := 785) (by decide) (Or.inr h1)
theorem MulRk.dvd (h : MulRk H L H' L' P Q1 Q2 Q3 p e m1 m2 c f Z) : (2 : Int) ^ 622 ∣ Z := by
  rw [h.rZ]
  exact Int.dvd_add (kp_fl_dvd h.fp) (kp_fl_dvd h.ff)
theorem MulRk.zero (h : MulRk H L H' L' P Q1 Q2 Q3 p e m1 m2 c f Z) (h0 : P = 0) : Z = 0 := by
  obtain ⟨h1, _, _, _, _, h6⟩ := h.R.le
  rw [h0] at h1 h6
  have hp : p = 0 := by omega
  have hf : f = 0 := by omega
  rw [h.rZ, hp, hf, kp_zero]; rfl
theorem small_pow3 {b c d k n : Nat} (h : 2 ^ k ≤ n) (hk : b + c + d ≤ k) : 2 ^ b * 2 ^ c * 2 ^ d ≤ n := by
  rw [← Nat.pow_add, ← Nat.pow_add]
  exact Nat.le_trans (Flt.two_le hk) h
theorem q400_P {n : Nat} (h : 2 ^ 786 ≤ n) : q400 * Flt.K53 * Flt.K53 ≤ n := by
  rw [q400_eq, K53_pow]
  exact small_pow3 (b := 674) (c := 53) (d := 53) (k := 786) h (by decide)
theorem MulRk.bound (h : MulRk H L H' L' P Q1 Q2 Q3 p e m1 m2 c f Z) : (Z - (P + Q1 + Q2 + Q3)).natAbs * Flt.K53 * Flt.K53 ≤ 65 * P.natAbs := by
  rcases h.hP with h0 | h0
  · have hb := h.R.bound
    obtain ⟨h1, _, _, _, _, h6⟩ := h.R.le
    have hZ := h.zero h0
    rw [h0] at h1 h6 hb
    have hp : p = 0 := by omega
    have hf : f = 0 := by omega
    rw [hp, hf] at hb
    rw [hZ, h0]
    simpa using hb
  · have hb := h.R.bound
    have e0 : (Z - (P + Q1 + Q2 + Q3)).natAbs ≤ (p + f - (P + Q1 + Q2 + Q3)).natAbs + (kp f - f).natAbs := by
      have e1 : Z - (P + Q1 + Q2 + Q3) = (p + f - (P + Q1 + Q2 + Q3)) + (kp f - f) := by rw [h.rZ, h.kpp]; omega
      rw [e1]
      exact Int.natAbs_add_le _ _
    have e1 := Nat.mul_le_mul_right Flt.K53 (Nat.mul_le_mul_right Flt.K53 (Nat.le_trans e0 (Nat.add_le_add_left (kp_err f) _)))
    rw [Nat.add_mul, Nat.add_mul] at e1
    have e2 := q400_P h0
    omega
theorem MulRk.up (h : MulRk H L H' L' P Q1 Q2 Q3 p e m1 m2 c f Z) : Z.natAbs ≤ 34 * P.natAbs := by
  obtain ⟨h1, _, _, _, _, h6⟩ := h.R.le
  rw [h.rZ]
  exact na_add (kp_up h1) (kp_up h6) (by omega)
theorem MulRk.prod (h : MulRk H L H' L' P Q1 Q2 Q3 p e m1 m2 c f Z) : (H + L) * (H' + L') = (P + Q1 + Q2 + Q3) * 2 ^ Flt.uE := by
  rw [Int.add_mul, Int.mul_add, Int.mul_add, h.R.hP, h.R.h1, h.R.h2, h.R.h3, Int.add_mul, Int.add_mul, Int.add_mul]
  omega
end
/-- what Mul bears -/
structure MulIn (H L H' L' : Int) : Prop where
  rL : Flt.rn (H + L) = H
  rL' : Flt.rn (H' + L') = H'
  fH : Flt.FromN 700 H
  fL : Flt.FromN 622 L
  fH' : Flt.FromN 700 H'
  fL' : Flt.FromN 622 L'
  mH : MildN H
  mH' : MildN H'
  sz : ∀ P : Int, H * H' = P * 2 ^ Flt.uE → (P = 0 ∨ 2 ^ 786 ≤ P.natAbs) ∧ P.natAbs ≤ 2 ^ 1366
theorem FromN.down {e f : Nat} {n : Int} (h : Flt.FromN e n) (hf : f ≤ e) : Flt.FromN f n := by
  rcases h with h | ⟨h1, h2⟩
  · exact Or.inl h
  · exact Or.inr ⟨Nat.le_trans (Flt.two_le (by omega)) h1, h2⟩
theorem mild_kp {n : Int} (h : MildN n) : kp n = n := by
  rcases h with h | ⟨h, _⟩
  · rw [h, kp_zero]
  · exact kp_id (k := mlo) (by decide) (Or.inr h)
theorem MulIn.tame {H L H' L' : Int} (hT : Flt.TameN H L) (hT' : Flt.TameN H' L') : MulIn H L H' L' := by
  obtain ⟨fH, fL⟩ := TameN.from hT
  obtain ⟨fH', fL'⟩ := TameN.from hT'
  exact ⟨TameN.rn hT, TameN.rn hT', FromN.down fH (by decide), fL, FromN.down fH' (by decide), fL', TameN.mild hT, TameN.mild hT', fun P hP => prod_size hT hT' hP⟩
end Go.Proofs.Ytpifkjmdcbieoaa

/- eft.Split: a mild float in two halves. -/
namespace Go.Proofs.Ytpifkjmdcbieoaa
open Go.RowKit

theorem split_run {x c d h l : Nat} (w : World) (h1 : Ieee.double.mul 4728779608772575232 x = some c) (h2 : Ieee.double.sub c x = some d) (h3 : Ieee.double.sub c d = some h) (h4 : Ieee.double.sub x h = some l) :
    Calls Try.prog 48 #[.float .f64 x] w fun r w' => r = .returned (.tuple #[.float .f64 h, .float .f64 l]) ∧ w = w' := by
  have o1 := fun w => run_fmul (P := Try.prog) 28 h1 w
  have o2 := fun w => run_fsub (P := Try.prog) 28 h2 w
  have o3 := fun w => run_fsub (P := Try.prog) 28 h3 w
  have o4 := fun w => run_fsub (P := Try.prog) 28 h4 w
  clear h1 h2 h3 h4
  go_enter Try.func48, Try.ntmps48
  go_wp2
  go_ret2
  exact ⟨rfl, rfl⟩
end Go.Proofs.Ytpifkjmdcbieoaa
