/- The float operations of the model, in whole numbers of the least unit: rounding, sums, products, order. No program is named here. -/
import Derived.Test.YtnclnbbnkfolgaaIeee
namespace Flt
open Ieee

/-- the cut is the nearest multiple -/
theorem nearest_mult (mag g c : Nat) (hg : 0 < g) (hc : c = mag / g + (if g < 2 * (mag % g) ∨ (g = 2 * (mag % g) ∧ mag / g % 2 = 1) then 1 else 0)) (j : Int) : ((c : Int) * g - mag).natAbs ≤ (j * g - mag).natAbs := by
  have hm : ((mag / g : Nat) : Int) * (g : Int) + ((mag % g : Nat) : Int) = (mag : Int) := by
    rw [← Int.natCast_mul, Nat.mul_comm]; exact_mod_cast Nat.div_add_mod mag g
  have hr := Nat.mod_lt mag hg
  obtain ⟨q, hq⟩ : ∃ q, q = mag / g := ⟨_, rfl⟩
  obtain ⟨r, hrr⟩ : ∃ r, r = mag % g := ⟨_, rfl⟩
  rw [← hq, ← hrr] at hc hm
  rw [← hrr] at hr
  have hj : (j * g : Int) ≤ (q : Int) * g ∨ ((q : Int) + 1) * g ≤ j * g := by
    rcases Int.lt_or_le j ((q : Int) + 1) with h | h
    · exact Or.inl (Int.mul_le_mul_of_nonneg_right (by omega) (by omega))
    · exact Or.inr (Int.mul_le_mul_of_nonneg_right h (by omega))
  rw [Int.add_mul, Int.one_mul] at hj
  by_cases hP : g < 2 * r ∨ (g = 2 * r ∧ q % 2 = 1)
  · rw [if_pos hP] at hc
    rw [hc, Int.natCast_add, Int.add_mul]
    generalize (q : Int) * (g : Int) = Q at *
    generalize j * (g : Int) = J at *
    have : ((1 : Nat) : Int) * (g : Int) = g := by simp
    rw [this]
    omega
  · rw [if_neg hP, Nat.add_zero] at hc
    rw [hc]
    generalize (q : Int) * (g : Int) = Q at *
    generalize j * (g : Int) = J at *
    omega
theorem near_cut (mag d drop c : Nat) (hq : 2 ^ 52 ≤ mag / 2 ^ drop) (hq2 : mag / 2 ^ drop < 2 ^ 53) (hc : c = mag / 2 ^ drop + (if 2 ^ drop < 2 * (mag % 2 ^ drop) ∨ (2 ^ drop = 2 * (mag % 2 ^ drop) ∧ mag / 2 ^ drop % 2 = 1) then 1 else 0)) :
    Near ((mag : Int) * 2 ^ d) ((c : Int) * 2 ^ (d + drop)) := by
  have hg : 0 < 2 ^ drop := Nat.pow_pos (by decide)
  have hmult := nearest_mult mag (2 ^ drop) c hg hc
  have cg : ((2 ^ drop : Nat) : Int) = (2 : Int) ^ drop := by rw [Int.natCast_pow]; rfl
  rw [cg] at hmult
  have hcle : c ≤ 2 ^ 53 := by split at hc <;> omega
  have ez : ∀ j : Int, j * 2 ^ (d + drop) - (mag : Int) * 2 ^ d = (j * 2 ^ drop - mag) * 2 ^ d := fun j => by
    rw [Int.sub_mul, show d + drop = drop + d from by omega, Int.pow_add, ← Int.mul_assoc]
  have ea : ∀ j : Int, (j * 2 ^ (d + drop) - (mag : Int) * 2 ^ d).natAbs = (j * 2 ^ drop - mag).natAbs * 2 ^ d := fun j => by
    rw [ez, Int.natAbs_mul, natAbs_two]
  refine ⟨fl_of (e := d + drop) (Int.dvd_mul_left _ _) ?_, fun y hy => ?_⟩
  · rw [Int.natAbs_mul, natAbs_two, Nat.pow_add 2 53]
    exact Nat.mul_le_mul_right _ hcle
  · rw [ea]
    by_cases hbig : 2 ^ (52 + (d + drop)) ≤ y.natAbs
    · obtain ⟨j, hj⟩ := dvd_of_ge hy hbig
      rw [hj, Int.mul_comm (2 ^ (d + drop)) j, ea]
      exact Nat.mul_le_mul_right _ (hmult j)
    · have h1 := hmult (2 ^ 52)
      have h2 : (((c : Int) * 2 ^ drop - mag).natAbs) * 2 ^ d ≤ (((2 : Int) ^ 52 * 2 ^ drop - mag).natAbs) * 2 ^ d := Nat.mul_le_mul_right _ h1
      refine Nat.le_trans h2 ?_
      rw [← ea]
      have h3 : (2 : Nat) ^ 52 * 2 ^ drop ≤ mag := by
        have := Nat.div_mul_le_self mag (2 ^ drop)
        exact Nat.le_trans (Nat.mul_le_mul_right _ hq) this
      have h4 : (2 : Nat) ^ (52 + (d + drop)) ≤ mag * 2 ^ d := by
        have := Nat.mul_le_mul_right (2 ^ d) h3
        rw [← Nat.pow_add, ← Nat.pow_add] at this
        rw [show 52 + (d + drop) = 52 + drop + d from by omega]; exact this
      have h5 : (2 : Int) ^ 52 * 2 ^ (d + drop) = (((2 : Nat) ^ (52 + (d + drop)) : Nat) : Int) := by
        rw [← Int.pow_add, Int.natCast_pow]; rfl
      have h6 : (mag : Int) * 2 ^ d = ((mag * 2 ^ d : Nat) : Int) := by rw [Int.natCast_mul, Int.natCast_pow]; rfl
      rw [h5, h6]
      omega

/-- far below the greatest float -/
def top : Nat := 2097
/-- to the nearest word -/
theorem nearest_num (s : Bool) (mag : Nat) (place : Int) (hp : mag = 0 ∨ -1074 ≤ place) (hb : mag * 2 ^ (place + 1074).toNat < 2 ^ top) :
    ∃ z, Num (double.nearest s mag place) z ∧ Near (sval s mag place) z := by
  by_cases h0 : mag = 0
  · subst h0
    have hr := (read_word s 0 0 (by decide) (Or.inl rfl) (by decide)).1
    have ez : (if s then -(((0 : Nat) : Int) * 2 ^ 0) else ((0 : Nat) : Int) * 2 ^ 0) = 0 := by cases s <;> rfl
    rw [ez] at hr
    refine ⟨0, ?_, ?_⟩
    · unfold Format.nearest
      rw [if_pos rfl]
      exact hr
    · have : sval s 0 place = 0 := by
        unfold sval
        rw [signed_eq]; cases s <;> simp
      rw [this]
      exact ⟨fl_zero, fun y _ => by omega⟩
  · have hp : -1074 ≤ place := by rcases hp with h | h
                                  · exact absurd h h0
                                  · exact h
    obtain ⟨d, hd⟩ : ∃ d : Nat, place = (d : Int) - 1074 := ⟨(place + 1074).toNat, by omega⟩
    subst hd
    rw [show ((d : Int) - 1074 + 1074).toNat = d from by omega] at hb
    have hsv : sval s mag ((d : Int) - 1074) = (if s then -((mag : Int) * 2 ^ d) else (mag : Int) * 2 ^ d) := by
      unfold sval
      rw [signed_eq, show ((d : Int) - 1074 + 1074).toNat = d from by omega]
    rw [hsv]
    have hlo := Nat.log2_self_le h0
    have hhi := @Nat.lt_log2_self mag
    -- the rung
    have key : ∃ k c : Nat, double.nearest s mag ((d : Int) - 1074) = double.word s (min (k * 4503599627370496 + c) 9218868437227405312) ∧ c ≤ 2 ^ 53 ∧ (k = 0 ∨ 2 ^ 52 ≤ c) ∧ k ≤ 2044 ∧ Near ((mag : Int) * 2 ^ d) ((c : Int) * 2 ^ k) := by
      have hkd : d + mag.log2 < 2097 := by
        have h1 : 2 ^ (mag.log2 + d) ≤ mag * 2 ^ d := by rw [Nat.pow_add]; exact Nat.mul_le_mul_right _ hlo
        have := two_lt (Nat.lt_of_le_of_lt h1 hb)
        have ht : top = 2097 := rfl
        omega
      unfold Format.nearest
      rw [if_neg h0, least, binade_eq, inf_eq, fraction_eq]
      by_cases c1 : d + mag.log2 ≤ 52
      · have e1 : max ((d : Int) - 1074 + (mag.log2 : Int) - ((52 : Nat) : Int)) (-1074) = -1074 := by omega
        refine ⟨0, mag * 2 ^ d, ?_, ?_, Or.inl rfl, by omega, ?_⟩
        · simp only [e1]
          rw [show (-1074 - ((d : Int) - 1074)).toNat = 0 from by omega, cut_zero, show ((d : Int) - 1074 - -1074).toNat = d from by omega, Nat.shiftLeft_eq]
          rfl
        · have h1 : mag * 2 ^ d < 2 ^ (mag.log2 + 1) * 2 ^ d := Nat.mul_lt_mul_of_pos_right hhi (Nat.pow_pos (by decide))
          rw [← Nat.pow_add] at h1
          exact Nat.le_of_lt (Nat.lt_of_lt_of_le h1 (two_le (by omega)))
        · have h1 : mag * 2 ^ d < 2 ^ (mag.log2 + 1) * 2 ^ d := Nat.mul_lt_mul_of_pos_right hhi (Nat.pow_pos (by decide))
          rw [← Nat.pow_add] at h1
          have e3 : ((mag * 2 ^ d : Nat) : Int) * 2 ^ 0 = (mag : Int) * 2 ^ d := by rw [Int.pow_zero, Int.mul_one, Int.natCast_mul, Int.natCast_pow]; rfl
          rw [e3]
          refine ⟨fl_small ?_, fun y _ => by omega⟩
          rw [Int.natAbs_mul, natAbs_two]
          exact Nat.le_of_lt (Nat.lt_of_lt_of_le h1 (two_le (by omega)))
      · have e1 : max ((d : Int) - 1074 + (mag.log2 : Int) - ((52 : Nat) : Int)) (-1074) = ((d + mag.log2 - 52 : Nat) : Int) - 1074 := by omega
        by_cases c2 : mag.log2 ≤ 52
        · refine ⟨d + mag.log2 - 52, mag * 2 ^ (52 - mag.log2), ?_, ?_, Or.inr ?_, by omega, ?_⟩
          · simp only [e1]
            rw [show (((d + mag.log2 - 52 : Nat) : Int) - 1074 - ((d : Int) - 1074)).toNat = 0 from by omega, cut_zero, show ((d : Int) - 1074 - (((d + mag.log2 - 52 : Nat) : Int) - 1074)).toNat = 52 - mag.log2 from by omega, Nat.shiftLeft_eq,
              show (((d + mag.log2 - 52 : Nat) : Int) - 1074 - -1074).toNat = d + mag.log2 - 52 from by omega]
          · have h1 : mag * 2 ^ (52 - mag.log2) < 2 ^ (mag.log2 + 1) * 2 ^ (52 - mag.log2) := Nat.mul_lt_mul_of_pos_right hhi (Nat.pow_pos (by decide))
            rw [← Nat.pow_add] at h1
            exact Nat.le_of_lt (Nat.lt_of_lt_of_le h1 (two_le (by omega)))
          · have h1 : 2 ^ mag.log2 * 2 ^ (52 - mag.log2) ≤ mag * 2 ^ (52 - mag.log2) := Nat.mul_le_mul_right _ hlo
            rw [← Nat.pow_add] at h1
            exact Nat.le_trans (two_le (by omega)) h1
          · have e3 : ((mag * 2 ^ (52 - mag.log2) : Nat) : Int) * 2 ^ (d + mag.log2 - 52) = (mag : Int) * 2 ^ d := by
              rw [Int.natCast_mul, Int.natCast_pow, Int.mul_assoc]
              have : (((2 : Nat) : Int) ^ (52 - mag.log2)) * 2 ^ (d + mag.log2 - 52) = (2 : Int) ^ d := by
                show (2 : Int) ^ (52 - mag.log2) * 2 ^ (d + mag.log2 - 52) = _
                rw [← Int.pow_add]; congr 1; omega
              rw [this]
            rw [e3]
            have h1 : mag < 2 ^ 53 := Nat.lt_of_lt_of_le hhi (two_le (by omega))
            refine ⟨⟨mag, d, rfl, h1⟩, fun y _ => by omega⟩
        · have hdrop : mag.log2 - 52 ≤ mag.log2 + 2 := by omega
          have q1 : 2 ^ 52 ≤ mag / 2 ^ (mag.log2 - 52) := by
            refine (Nat.le_div_iff_mul_le (Nat.pow_pos (by decide))).2 ?_
            rw [← Nat.pow_add, show 52 + (mag.log2 - 52) = mag.log2 from by omega]; exact hlo
          have q2 : mag / 2 ^ (mag.log2 - 52) < 2 ^ 53 := by
            refine (Nat.div_lt_iff_lt_mul (Nat.pow_pos (by decide))).2 ?_
            rw [← Nat.pow_add, show 53 + (mag.log2 - 52) = mag.log2 + 1 from by omega]; exact hhi
          have hN := near_cut mag d (mag.log2 - 52) _ q1 q2 rfl
          refine ⟨d + (mag.log2 - 52), _, ?_, ?_, Or.inr ?_, by omega, hN⟩
          · simp only [e1]
            rw [show (((d + mag.log2 - 52 : Nat) : Int) - 1074 - ((d : Int) - 1074)).toNat = mag.log2 - 52 from by omega, show ((d : Int) - 1074 - (((d + mag.log2 - 52 : Nat) : Int) - 1074)).toNat = 0 from by omega, Nat.shiftLeft_zero, cut_some s mag _ hdrop,
              show (((d + mag.log2 - 52 : Nat) : Int) - 1074 - -1074).toNat = d + (mag.log2 - 52) from by omega]
          · split <;> omega
          · split <;> omega
    obtain ⟨k, c, e, hc, hl, hk, hN⟩ := key
    obtain ⟨hR, hlt⟩ := read_word s k c hc hl hk
    rw [e, Nat.min_eq_left (Nat.le_of_lt hlt)]
    refine ⟨_, hR, ?_⟩
    cases s
    · exact hN
    · exact hN.neg

theorem signed_scale (s : Bool) (m a b : Nat) : signed s m (a + b) = signed s m a * 2 ^ b := by
  rw [signed_eq, signed_eq, Int.pow_add, ← Int.mul_assoc]
  cases s
  · rfl
  · show -((m : Int) * 2 ^ a * 2 ^ b) = -((m : Int) * 2 ^ a) * 2 ^ b
    rw [Int.neg_mul]
theorem signed_total (t : Int) (k : Nat) : signed (decide (t < 0)) t.natAbs k = t * 2 ^ k := by
  rw [signed_eq]
  by_cases h : t < 0
  · simp only [h, decide_true, if_true]
    rw [← Int.neg_mul]; congr 1; omega
  · simp only [h, decide_false, Bool.false_eq_true, if_false]
    congr 1; omega

/-- the sum of two numbers, to the nearest -/
theorem sum_num {s t : Bool} {m n : Nat} {i j : Int} (hi : -1074 ≤ i) (hj : -1074 ≤ j) (hb : (sval s m i + sval t n j).natAbs < 2 ^ top) :
    ∃ r z, ((Datum.number s m i).sum (.number t n j)).map double.write = some r ∧ Num r z ∧ Near (sval s m i + sval t n j) z := by
  obtain ⟨base, hbase⟩ : ∃ base, base = min i j := ⟨_, rfl⟩
  have hb0 : -1074 ≤ base := by omega
  have ei : sval s m i = signed s m (i - base).toNat * 2 ^ (base + 1074).toNat := by
    unfold sval
    rw [← signed_scale]; congr 1; omega
  have ej : sval t n j = signed t n (j - base).toNat * 2 ^ (base + 1074).toNat := by
    unfold sval
    rw [← signed_scale]; congr 1; omega
  obtain ⟨T, hT⟩ : ∃ T, T = signed s m (i - base).toNat + signed t n (j - base).toNat := ⟨_, rfl⟩
  have eT : sval s m i + sval t n j = T * 2 ^ (base + 1074).toNat := by rw [ei, ej, hT, Int.add_mul]
  rw [eT] at hb ⊢
  have hw : ((Datum.number s m i).sum (.number t n j)).map double.write = some (double.nearest (if T = 0 then s && t else decide (T < 0)) T.natAbs base) := by
    rw [hT, hbase]; rfl
  rw [Int.natAbs_mul, natAbs_two] at hb
  obtain ⟨z, h1, h2⟩ := nearest_num (if T = 0 then s && t else decide (T < 0)) T.natAbs base (Or.inr hb0) hb
  refine ⟨_, z, hw, h1, ?_⟩
  have : sval (if T = 0 then s && t else decide (T < 0)) T.natAbs base = T * 2 ^ (base + 1074).toNat := by
    unfold sval
    by_cases h0 : T = 0
    · subst h0
      rw [signed_eq]; cases s <;> cases t <;> simp
    · rw [if_neg h0]; exact signed_total _ _
  rw [this] at h2
  exact h2
theorem add_num {x y : Nat} {a b : Int} (hx : Num x a) (hy : Num y b) (hb : (a + b).natAbs < 2 ^ top) : ∃ r z, double.add x y = some r ∧ Num r z ∧ Near (a + b) z := by
  obtain ⟨s, m, i, hr, h1, _, _, rfl⟩ := hx.ex
  obtain ⟨t, n, j, hr', h1', _, _, rfl⟩ := hy.ex
  unfold Format.add
  rw [hr, hr']
  exact sum_num h1 h1' hb
theorem sval_not (s : Bool) (m : Nat) (i : Int) : sval (!s) m i = - sval s m i := by
  unfold sval
  rw [signed_eq, signed_eq]
  cases s <;> simp
theorem sub_num {x y : Nat} {a b : Int} (hx : Num x a) (hy : Num y b) (hb : (a - b).natAbs < 2 ^ top) : ∃ r z, double.sub x y = some r ∧ Num r z ∧ Near (a - b) z := by
  obtain ⟨s, m, i, hr, h1, _, _, rfl⟩ := hx.ex
  obtain ⟨t, n, j, hr', h1', _, _, rfl⟩ := hy.ex
  unfold Format.sub
  rw [hr, hr']
  have e : sval s m i - sval t n j = sval s m i + sval (!t) n j := by rw [sval_not]; omega
  rw [e] at hb ⊢
  exact sum_num h1 h1' hb

/-- the order of two numbers -/
theorem order_num {x y : Nat} {a b : Int} (hx : Num x a) (hy : Num y b) : double.order x y = some (compare a b) := by
  obtain ⟨s, m, i, hr, h1, _, _, rfl⟩ := hx.ex
  obtain ⟨t, n, j, hr', h1', _, _, rfl⟩ := hy.ex
  unfold Format.order
  rw [hr, hr']
  show some (compare (signed s m (i - min i j).toNat) (signed t n (j - min i j).toNat)) = _
  obtain ⟨base, hbase⟩ : ∃ base, base = min i j := ⟨_, rfl⟩
  rw [← hbase]
  have ei : sval s m i = signed s m (i - base).toNat * 2 ^ (base + 1074).toNat := by
    unfold sval
    rw [← signed_scale]; congr 1; omega
  have ej : sval t n j = signed t n (j - base).toNat * 2 ^ (base + 1074).toNat := by
    unfold sval
    rw [← signed_scale]; congr 1; omega
  rw [ei, ej]
  have hp := two_pos (base + 1074).toNat
  generalize signed s m (i - base).toNat = p
  generalize signed t n (j - base).toNat = q
  generalize (2 : Int) ^ (base + 1074).toNat = K at hp
  congr 1
  rcases Int.lt_trichotomy p q with h | h | h
  · have h2 : p * K < q * K := Int.mul_lt_mul_of_pos_right h hp
    rw [show compare p q = .lt from by simp [compare, compareOfLessAndEq, h], show compare (p * K) (q * K) = .lt from by simp [compare, compareOfLessAndEq, h2]]
  · subst h
    rw [show compare p p = .eq from by simp [compare, compareOfLessAndEq], show compare (p * K) (p * K) = .eq from by simp [compare, compareOfLessAndEq]]
  · have h2 : q * K < p * K := Int.mul_lt_mul_of_pos_right h hp
    have n1 : ¬ p < q := by omega
    have n2 : ¬ p = q := by omega
    have n3 : ¬ p * K < q * K := by omega
    have n4 : ¬ p * K = q * K := by omega
    rw [show compare p q = .gt from by simp [compare, compareOfLessAndEq, n1, n2], show compare (p * K) (q * K) = .gt from by simp [compare, compareOfLessAndEq, n3, n4]]
end Flt
