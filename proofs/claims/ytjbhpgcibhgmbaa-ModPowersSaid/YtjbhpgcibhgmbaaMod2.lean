/- Layer 1's calls answer what the chapter says: the reference's powers, greatest common divisors, inverses, least common multiples. -/
import Derived.Test.YtjbhpgcibhgmbaaMod
import Derived.Deep.LoopGhost
namespace Go.Proofs.Ytjbhpgcibhgmbaa
open Go.RowKit

theorem refPow_any (a e m : Int) (w : World) (he1 : e ≤ 9223372036854775807) :
    Calls Try.prog 18 #[.int .i64 a, .int .i64 e, .int .i64 m] w fun r w' => r = .returned (.int .i64 (powS a e m)) ∧ w = w' := by
  by_cases hm : 1 ≤ m
  · by_cases h2 : m ≤ 4611686018427387904
    · by_cases h3 : 0 ≤ e
      · rw [powS_yes hm h2 h3]
        have hS := PowInv.start' (a := a) hm h3
        have h3' : ¬ e < 0 := by omega
        have x0 := Int.emod_nonneg a (by omega : m ≠ 0)
        have x1 := Int.emod_lt_of_pos a (by omega : 0 < m)
        go_enter Try.func18, Try.ntmps18
        go_wp2_with fail
        refine (rest_any a m _ hm h2).mono ?_; rintro r w1 ⟨rfl, rfl⟩
        go_wp2_with fail
        refine (rest_any 1 m _ hm h2).mono ?_; rintro r w1 ⟨rfl, rfl⟩
        go_wp2_with fail
        go_loop [1, 7, 8] (fun x y z => ∃ e' p s : Int, PowInv a e m p s e' ∧ 0 ≤ s ∧ s < m ∧ x = .int .i64 e' ∧ y = .int .i64 s ∧ z = .int .i64 p) (fun x _ _ => (intOf x).toNat)
        case atStart => exact ⟨_, _, _, hS, x0, x1, rfl, rfl, rfl⟩
        case round =>
          obtain ⟨e', p, s, hI, s0, s1, rfl, rfl, rfl⟩ := hrel
          have i0 := hI.e0
          have i1 : e' ≤ 9223372036854775807 := Int.le_trans hI.e1 he1
          have p0 := hI.p0
          have p1 := hI.p1
          have ss0 := Int.emod_nonneg (s * s) (by omega : m ≠ 0)
          have ss1 := Int.emod_lt_of_pos (s * s) (by omega : 0 < m)
          have b2 : 0 ≤ e' / 2 := by omega
          by_cases hp : 0 < e'
          · by_cases hb : e' % 2 = 1
            · have hN := hI.odd hm hb
              have t2 : (e' % 2 == 1) = true := by rw [beq_iff_eq]; exact hb
              clear hb
              go_wp2_with fail
              refine (times_any p s m _ hm h2 p0 p1 s0 s1).mono ?_; rintro r w1 ⟨rfl, rfl⟩
              go_wp2_with fail
              refine (times_any s s m _ hm h2 s0 s1 s0 s1).mono ?_; rintro r w1 ⟨rfl, rfl⟩
              go_wp2
              go_round
              case rel => exact ⟨_, _, _, hN, ss0, ss1, rfl, rfl, rfl⟩
              case measure => simp [intOf]; omega
            · have hN := hI.even (by omega)
              have t2 : (e' % 2 == 1) = false := by rw [beq_eq_false_iff_ne]; exact hb
              clear hb
              go_wp2_with fail
              refine (times_any s s m _ hm h2 s0 s1 s0 s1).mono ?_; rintro r w1 ⟨rfl, rfl⟩
              go_wp2
              go_round
              case rel => exact ⟨_, _, _, hN, ss0, ss1, rfl, rfl, rfl⟩
              case measure => simp [intOf]; omega
          · have hd := hI.done hp
            have E := Lib.hid hd; clear hd
            go_wp2
            go_ret
            exact ⟨ret_i64 E.out, rfl⟩
      · rw [powS_no (by omega)]
        have h3' : e < 0 := by omega
        have h4 : ¬ m < 1 := by omega
        have h5 : ¬ 4611686018427387904 < m := by omega
        go_enter Try.func18, Try.ntmps18
        go_wp2
        go_ret
        exact ⟨rfl, rfl⟩
    · rw [powS_no (by omega)]
      have h4 : ¬ m < 1 := by omega
      have h5 : 4611686018427387904 < m := by omega
      go_enter Try.func18, Try.ntmps18
      go_wp2
      go_ret
      exact ⟨rfl, rfl⟩
  · rw [powS_no (by omega)]
    have h4 : m < 1 := by omega
    go_enter Try.func18, Try.ntmps18
    go_wp2
    go_ret
    exact ⟨rfl, rfl⟩

/-- Euclid's pairs in arrays: the greatest common divisor, and a factor beside it. -/
theorem euclid_any (x y : Int) (w : World) (x0 : 0 ≤ x) (x1 : x ≤ 9223372036854775807) (y0 : 0 ≤ y) (y1 : y ≤ 9223372036854775807) :
    Calls Try.prog 22 #[.agg #[.int .i64 x, .int .i64 y]] w fun e w' => (∃ f k : Int, e = .returned (.tuple #[.int .i64 (Int.gcd x y : Int), .int .i64 f]) ∧ (Int.gcd x y : Int) = f * y + k * x ∧ -9223372036854775807 ≤ f ∧ f ≤ 9223372036854775807) ∧ Grown w w' := by
  have hS := Dia.EuInv.start x0 y0
  go_enter Try.func22, Try.ntmps22
  go_wp2
  go_loopg [5] y.toNat (fun g _ wr => ∃ p0 p1 f0 f1 : Int, Dia.EuInv x y p0 p1 f0 f1 ∧ p0 ≤ 9223372036854775807 ∧ p1 ≤ 9223372036854775807 ∧ g = p1.toNat ∧ wr = (w.alloc (Obj.cells #[Value.int IntKind.i64 p0, Value.int IntKind.i64 p1] 34)).alloc (Obj.cells #[Value.int IntKind.i64 f0, Value.int IntKind.i64 f1] 34))
  case atStart => exact ⟨_, _, _, _, hS, x1, y1, rfl, rfl⟩
  case round =>
    obtain ⟨p0, p1, f0, f1, hI, b0, b1, rfl, rfl⟩ := hrel
    have i0 := hI.a0
    have i1 := hI.a1
    obtain ⟨j0, j1⟩ := hI.b0
    obtain ⟨l0, l1⟩ := hI.b1
    by_cases hp : p1 = 0
    · subst hp
      obtain ⟨k, hk⟩ := hI.c0
      have hg := hI.gcd
      subst hg
      have HK := Lib.hid hk; clear hk
      go_wp2
      go_quiet (fail)
      go_wp2
      go_ret2
      exact ⟨⟨f0, k, rfl, HK.out, j0, j1⟩, (((Grown.refl _).alloc _ _).alloc _ _).drewN _⟩
    · obtain ⟨q0, q1, m0, m1, r0, r1, ⟨n0, n0'⟩, ⟨n1, n1'⟩, hN⟩ := hI.step x1 (by omega)
      have t1 : (p1 == 0) = false := by rw [beq_eq_false_iff_ne]; exact hp
      have t2 : (p1 != 0) = true := by rw [bne_iff_ne]; exact hp
      have p1p : 0 < p1 := by omega
      clear hp
      go_wp2
      go_roundg (p0 - p0 / p1 * p1).toNat
      case measure => omega
      case rel => exact ⟨_, _, _, _, hN, by omega, by omega, rfl, rfl⟩

/-- the document's greatest common divisor -/
def gcdS (a b : Int) : Int := if 0 ≤ a ∧ 0 ≤ b then (Int.gcd a b : Int) else -1
theorem gcdS_yes {a b : Int} (h1 : 0 ≤ a) (h2 : 0 ≤ b) : gcdS a b = (Int.gcd a b : Int) := if_pos ⟨h1, h2⟩
theorem gcdS_no {a b : Int} (h : a < 0 ∨ b < 0) : gcdS a b = -1 := if_neg (by omega)

theorem gcd_any (a b : Int) (w : World) (a1 : a ≤ 9223372036854775807) (b1 : b ≤ 9223372036854775807) :
    Calls Try.prog 12 #[.int .i64 a, .int .i64 b] w fun e w' => e = .returned (.int .i64 (gcdS a b)) ∧ Grown w w' := by
  by_cases ha : 0 ≤ a
  · by_cases hb : 0 ≤ b
    · rw [gcdS_yes ha hb]
      have ha' : ¬ a < 0 := by omega
      have hb' : ¬ b < 0 := by omega
      go_enter Try.func12, Try.ntmps12
      go_wp2_with fail
      refine (euclid_any a b _ ha a1 hb b1).mono ?_; rintro e w1 ⟨⟨f, k, rfl, he, f0, f1⟩, hg⟩
      clear he
      go_wp2
      go_ret
      exact ⟨rfl, hg⟩
    · rw [gcdS_no (by omega)]
      have ha' : ¬ a < 0 := by omega
      have hb' : b < 0 := by omega
      go_enter Try.func12, Try.ntmps12
      go_wp2
      go_ret
      exact ⟨rfl, Grown.refl _⟩
  · rw [gcdS_no (by omega)]
    have ha' : a < 0 := by omega
    go_enter Try.func12, Try.ntmps12
    go_wp2
    go_ret
    exact ⟨rfl, Grown.refl _⟩

structure GcdInv (a b x y : Int) : Prop where
  x0 : 0 ≤ x
  y0 : 0 ≤ y
  x1 : x ≤ 9223372036854775807
  y1 : y ≤ 9223372036854775807
  g : Int.gcd x y = Int.gcd a b
theorem GcdInv.less {a b x y : Int} (h : GcdInv a b x y) (hx : 0 < x) : GcdInv a b x (y % x) :=
  ⟨h.x0, Int.emod_nonneg _ (by omega), h.x1, by have := Int.emod_lt_of_pos y hx; have := h.x1; omega, by rw [Dia.gcd_step_r, h.g]⟩
theorem GcdInv.more {a b x y : Int} (h : GcdInv a b x y) (hy : 0 < y) : GcdInv a b (x % y) y :=
  ⟨Int.emod_nonneg _ (by omega), h.y0, by have := Int.emod_lt_of_pos x hy; have := h.y1; omega, h.y1, by rw [Dia.gcd_step_l, h.g]⟩

theorem refGcd_any (a b : Int) (w : World) (a1 : a ≤ 9223372036854775807) (b1 : b ≤ 9223372036854775807) :
    Calls Try.prog 13 #[.int .i64 a, .int .i64 b] w fun e w' => e = .returned (.int .i64 (gcdS a b)) ∧ w = w' := by
  by_cases ha : 0 ≤ a
  · by_cases hb : 0 ≤ b
    · rw [gcdS_yes ha hb]
      have ha' : ¬ a < 0 := by omega
      have hb' : ¬ b < 0 := by omega
      have hS : GcdInv a b a b := ⟨ha, hb, a1, b1, rfl⟩
      go_enter Try.func13, Try.ntmps13
      go_wp2
      go_loop [0, 1] (fun u v => ∃ x y : Int, GcdInv a b x y ∧ u = .int .i64 x ∧ v = .int .i64 y) (fun u v => (intOf u).toNat + (intOf v).toNat)
      case atStart => exact ⟨_, _, hS, rfl, rfl⟩
      case round =>
        obtain ⟨x, y, hI, rfl, rfl⟩ := hrel
        obtain ⟨x0, y0, x1, y1, hg⟩ := id hI
        by_cases hx : 0 < x
        · by_cases hy : 0 < y
          · by_cases hlt : x < y
            · have hN := hI.less hx
              have hb0 := Int.emod_lt_of_pos y hx
              have t1 : (x == 0) = false := by rw [beq_eq_false_iff_ne]; omega
              clear hg
              go_wp2
              go_round
              case rel => exact ⟨_, _, hN, rfl, rfl⟩
              case measure => simp [intOf]; omega
            · have hN := hI.more hy
              have hb0 := Int.emod_lt_of_pos x hy
              have t1 : (y == 0) = false := by rw [beq_eq_false_iff_ne]; omega
              clear hg
              go_wp2
              go_round
              case rel => exact ⟨_, _, hN, rfl, rfl⟩
              case measure => simp [intOf]; omega
          · have e : x + y = (Int.gcd a b : Int) := by
              have : y = 0 := by omega
              subst this
              rw [← hg, Dia.gcd_end_r x0, Int.add_zero]
            have E := Lib.hid e; clear e hg
            go_wp2
            go_ret
            exact ⟨ret_i64 E.out, rfl⟩
        · have e : x + y = (Int.gcd a b : Int) := by
            have : x = 0 := by omega
            subst this
            rw [← hg, Dia.gcd_end_l y0, Int.zero_add]
          have E := Lib.hid e; clear e hg
          go_wp2
          go_ret
          exact ⟨ret_i64 E.out, rfl⟩
    · rw [gcdS_no (by omega)]
      have ha' : ¬ a < 0 := by omega
      have hb' : b < 0 := by omega
      go_enter Try.func13, Try.ntmps13
      go_wp2
      go_ret
      exact ⟨rfl, rfl⟩
  · rw [gcdS_no (by omega)]
    have ha' : a < 0 := by omega
    go_enter Try.func13, Try.ntmps13
    go_wp2
    go_ret
    exact ⟨rfl, rfl⟩

/-- the document's least common multiple: is there one, and which -/
def lcmB (a b most : Int) : Bool := decide (1 ≤ a ∧ 1 ≤ b ∧ a / (Int.gcd a b : Int) * b ≤ most)
def lcmV (a b most : Int) : Int := if lcmB a b most = true then a / (Int.gcd a b : Int) * b else 0
theorem lcm_yes {a b most : Int} (h1 : 1 ≤ a) (h2 : 1 ≤ b) (h3 : a / (Int.gcd a b : Int) * b ≤ most) : lcmB a b most = true ∧ lcmV a b most = a / (Int.gcd a b : Int) * b := by
  have h : lcmB a b most = true := decide_eq_true ⟨h1, h2, h3⟩
  exact ⟨h, by unfold lcmV; rw [if_pos h]⟩
theorem lcm_no {a b most : Int} (h : a < 1 ∨ b < 1 ∨ most < a / (Int.gcd a b : Int) * b) : lcmB a b most = false ∧ lcmV a b most = 0 := by
  have h : lcmB a b most = false := decide_eq_false (by omega)
  exact ⟨h, by unfold lcmV; rw [h]; rfl⟩

theorem lcm_any (a b most : Int) (w : World) (a1 : a ≤ 9223372036854775807) (b1 : b ≤ 9223372036854775807) (c0 : -9223372036854775808 ≤ most) (c1 : most ≤ 9223372036854775807) :
    Calls Try.prog 9 #[.int .i64 a, .int .i64 b, .int .i64 most] w fun e w' => e = .returned (.tuple #[.int .i64 (lcmV a b most), .bool (lcmB a b most)]) ∧ Grown w w' := by
  by_cases ha : 1 ≤ a
  · by_cases hb : 1 ≤ b
    · have hG := gcdS_yes (a := a) (b := b) (by omega) (by omega)
      have hg := Dia.gcd_le (b := b) ha
      have hp := Dia.part_bd (b := b) ha
      have ha' : ¬ a < 1 := by omega
      have hb' : ¬ b < 1 := by omega
      have tb : (b == 0) = false := by rw [beq_eq_false_iff_ne]; omega
      have hL : ∀ c, most < c → (a / (Int.gcd a b : Int) * b = c → lcmB a b most = false ∧ lcmV a b most = 0) := fun c h e => lcm_no (by omega)
      have hY : a / (Int.gcd a b : Int) * b ≤ most → lcmB a b most = true ∧ lcmV a b most = a / (Int.gcd a b : Int) * b := lcm_yes ha hb
      obtain ⟨g, eg⟩ : ∃ g, (Int.gcd a b : Int) = g := ⟨_, rfl⟩
      rw [eg] at hG hg hp hL hY
      obtain ⟨g0, g1⟩ := hg
      have tg : (g == 0) = false := by rw [beq_eq_false_iff_ne]; omega
      obtain ⟨p, ep⟩ : ∃ p, a / g = p := ⟨_, rfl⟩
      rw [ep] at hp hL hY
      obtain ⟨p0, p1⟩ := hp
      by_cases hm : most < p * b
      · obtain ⟨e1, e2⟩ := hL _ hm rfl
        rw [e1, e2]
        have HG := Lib.hid hG
        clear hG hL hY e1 e2 eg
        by_cases hs : 0 ≤ most
        · have ht : most / b < p := (Dia.gt_div hb).2 hm
          clear hm
          go_enter Try.func9, Try.ntmps9
          go_wp2_with fail
          refine (gcd_any a b _ a1 b1).mono ?_; rintro e w1 ⟨rfl, hg⟩
          rw [HG.out]
          go_wp2
          go_ret2
          exact ⟨rfl, hg⟩
        · obtain ⟨ht0, ht⟩ := Dia.tdiv_neg_bd (m := most) (b := b) (by omega) hb
          have ht2 : most.tdiv b < p := by omega
          clear hm
          go_enter Try.func9, Try.ntmps9
          go_wp2_with fail
          refine (gcd_any a b _ a1 b1).mono ?_; rintro e w1 ⟨rfl, hg⟩
          rw [HG.out]
          go_wp2
          go_ret2
          exact ⟨rfl, hg⟩
      · obtain ⟨e1, e2⟩ := hY (by omega)
        rw [e1, e2]
        have HG := Lib.hid hG
        clear hG hL hY e1 e2 eg
        have m0 : 0 ≤ p * b := Int.mul_nonneg (by omega) (by omega)
        have hs : 0 ≤ most := by omega
        have ht : ¬ most / b < p := fun h => hm ((Dia.gt_div hb).1 h)
        have m1 : p * b ≤ 9223372036854775807 := by omega
        clear hm
        go_enter Try.func9, Try.ntmps9
        go_wp2_with fail
        refine (gcd_any a b _ a1 b1).mono ?_; rintro e w1 ⟨rfl, hg⟩
        rw [HG.out]
        go_wp2
        go_ret2
        exact ⟨rfl, hg⟩
    · obtain ⟨e1, e2⟩ := lcm_no (a := a) (b := b) (most := most) (by omega)
      rw [e1, e2]
      have ha' : ¬ a < 1 := by omega
      have hb' : b < 1 := by omega
      clear e1 e2
      go_enter Try.func9, Try.ntmps9
      go_wp2
      go_ret2
      exact ⟨rfl, Grown.refl _⟩
  · obtain ⟨e1, e2⟩ := lcm_no (a := a) (b := b) (most := most) (by omega)
    rw [e1, e2]
    have ha' : a < 1 := by omega
    clear e1 e2
    go_enter Try.func9, Try.ntmps9
    go_wp2
    go_ret2
    exact ⟨rfl, Grown.refl _⟩

theorem refLcm_any (a b most : Int) (w : World) (a1 : a ≤ 9223372036854775807) (b1 : b ≤ 9223372036854775807) (c1 : most ≤ 9223372036854775807) :
    Calls Try.prog 10 #[.int .i64 a, .int .i64 b, .int .i64 most] w fun e w' => e = .returned (.tuple #[.int .i64 (lcmV a b most), .bool (lcmB a b most)]) ∧ w = w' := by
  by_cases ha : 1 ≤ a
  · by_cases hb : 1 ≤ b
    · have hG := gcdS_yes (a := a) (b := b) (by omega) (by omega)
      have hg := Dia.gcd_le (b := b) ha
      have hp := Dia.part_bd (b := a) hb
      rw [Int.gcd_comm] at hp
      have hk := Dia.lcm_part (a := a) (b := b)
      have ha' : ¬ a < 1 := by omega
      have hb' : ¬ b < 1 := by omega
      have hL : ∀ c, most < c → (a / (Int.gcd a b : Int) * b = c → lcmB a b most = false ∧ lcmV a b most = 0) := fun c h e => lcm_no (by omega)
      have hY : a / (Int.gcd a b : Int) * b ≤ most → lcmB a b most = true ∧ lcmV a b most = a / (Int.gcd a b : Int) * b := lcm_yes ha hb
      obtain ⟨g, eg⟩ : ∃ g, (Int.gcd a b : Int) = g := ⟨_, rfl⟩
      rw [eg] at hG hg hp hL hY hk
      obtain ⟨g0, g1⟩ := hg
      have tg : (g == 0) = false := by rw [beq_eq_false_iff_ne]; omega
      rw [hk] at hL hY
      obtain ⟨k, ek⟩ : ∃ k, b / g = k := ⟨_, rfl⟩
      rw [ek] at hp hL hY
      obtain ⟨k0, k1⟩ := hp
      have tk : (k == 0) = false := by rw [beq_eq_false_iff_ne]; omega
      by_cases hm : most < a * k
      · obtain ⟨e1, e2⟩ := hL _ hm rfl
        rw [e1, e2]
        have HG := Lib.hid hG
        clear hG hL hY e1 e2 eg hk
        by_cases hs : 1 ≤ most
        · have ht : most / k < a := (Dia.gt_div k0).2 hm
          have hs' : ¬ most < 1 := by omega
          clear hm
          go_enter Try.func10, Try.ntmps10
          go_wp2_with fail
          refine (refGcd_any a b _ a1 b1).mono ?_; rintro e w1 ⟨rfl, rfl⟩
          rw [HG.out]
          go_wp2
          go_ret2
          exact ⟨rfl, rfl⟩
        · have hs' : most < 1 := by omega
          clear hm
          go_enter Try.func10, Try.ntmps10
          go_wp2
          go_ret2
          exact ⟨rfl, rfl⟩
      · obtain ⟨e1, e2⟩ := hY (by omega)
        rw [e1, e2]
        have HG := Lib.hid hG
        clear hG hL hY e1 e2 eg hk
        have m0 : 1 ≤ a * k := by
          have : 1 * 1 ≤ a * k := Int.mul_le_mul ha k0 (by omega) (by omega)
          omega
        have hs' : ¬ most < 1 := by omega
        have hs : 0 ≤ most := by omega
        have ht : ¬ most / k < a := fun h => hm ((Dia.gt_div k0).1 h)
        have m1 : a * k ≤ 9223372036854775807 := by omega
        clear hm
        go_enter Try.func10, Try.ntmps10
        go_wp2_with fail
        refine (refGcd_any a b _ a1 b1).mono ?_; rintro e w1 ⟨rfl, rfl⟩
        rw [HG.out]
        go_wp2
        go_ret2
        exact ⟨rfl, rfl⟩
    · obtain ⟨e1, e2⟩ := lcm_no (a := a) (b := b) (most := most) (by omega)
      rw [e1, e2]
      have ha' : ¬ a < 1 := by omega
      have hb' : b < 1 := by omega
      clear e1 e2
      go_enter Try.func10, Try.ntmps10
      go_wp2
      go_ret2
      exact ⟨rfl, rfl⟩
  · obtain ⟨e1, e2⟩ := lcm_no (a := a) (b := b) (most := most) (by omega)
    rw [e1, e2]
    have ha' : a < 1 := by omega
    clear e1 e2
    go_enter Try.func10, Try.ntmps10
    go_wp2
    go_ret2
    exact ⟨rfl, rfl⟩

/-- mod.Inverse: there is one where m is a modulus and has no divisor with a but 1. -/
theorem inv_yes (a m : Int) (w : World) (h1 : 1 ≤ m) (h2 : m ≤ 4611686018427387904) (hg : (Int.gcd m (a % m) : Int) = 1) :
    Calls Try.prog 19 #[.int .i64 a, .int .i64 m] w fun e w' => (∃ b : Int, e = .returned (.tuple #[.int .i64 b, .bool true]) ∧ 0 ≤ b ∧ b < m ∧ (a * b) % m = 1 % m) ∧ Grown w w' := by
  have x0 := Int.emod_nonneg a (by omega : m ≠ 0)
  have x1 := Int.emod_lt_of_pos a (by omega : 0 < m)
  have HG := Lib.hid hg; clear hg
  go_enter Try.func19, Try.ntmps19
  go_wp2_with fail
  refine (isModulus_yes m _ h1 h2).mono ?_; rintro e w1 ⟨rfl, rfl⟩
  go_wp2_with fail
  refine (remainder_any a m _ h1 h2).mono ?_; rintro e w1 ⟨rfl, rfl⟩
  go_wp2_with fail
  refine (euclid_any m (a % m) _ (by omega) (by omega) x0 (by omega)).mono ?_; rintro e w1 ⟨⟨f, k, rfl, he, f0, f1⟩, hgr⟩
  rw [HG.out] at he ⊢
  have hv := Dia.inv_of he
  have HV := Lib.hid hv; clear hv he
  have v0 := Int.emod_nonneg f (by omega : m ≠ 0)
  have v1 := Int.emod_lt_of_pos f (by omega : 0 < m)
  go_wp2_with fail
  refine (remainder_any f m _ h1 h2).mono ?_; rintro e w2 ⟨rfl, rfl⟩
  go_wp2
  go_ret2
  exact ⟨⟨_, rfl, v0, v1, HV.out⟩, hgr⟩

theorem inv_no (a m : Int) (w : World) (h : m < 1 ∨ 4611686018427387904 < m ∨ (Int.gcd m (a % m) : Int) ≠ 1) :
    Calls Try.prog 19 #[.int .i64 a, .int .i64 m] w fun e w' => e = .returned (.tuple #[.int .i64 0, .bool false]) ∧ Grown w w' := by
  by_cases hm : 1 ≤ m ∧ m ≤ 4611686018427387904
  · obtain ⟨h1, h2⟩ := hm
    have hg : (Int.gcd m (a % m) : Int) ≠ 1 := by omega
    have x0 := Int.emod_nonneg a (by omega : m ≠ 0)
    have x1 := Int.emod_lt_of_pos a (by omega : 0 < m)
    have g1 : (Int.gcd m (a % m) : Int) ≤ m := (Dia.gcd_le h1).2
    obtain ⟨g, eg⟩ : ∃ g, (Int.gcd m (a % m) : Int) = g := ⟨_, rfl⟩
    rw [eg] at hg g1
    have tg : (g == 1) = false := by rw [beq_eq_false_iff_ne]; exact hg
    have tg2 : (g != 1) = true := by rw [bne_iff_ne]; exact hg
    have EG := Lib.hid eg; clear eg hg h
    go_enter Try.func19, Try.ntmps19
    go_wp2_with fail
    refine (isModulus_yes m _ h1 h2).mono ?_; rintro e w1 ⟨rfl, rfl⟩
    go_wp2_with fail
    refine (remainder_any a m _ h1 h2).mono ?_; rintro e w1 ⟨rfl, rfl⟩
    go_wp2_with fail
    refine (euclid_any m (a % m) _ (by omega) (by omega) x0 (by omega)).mono ?_; rintro e w1 ⟨⟨f, k, rfl, he, f0, f1⟩, hgr⟩
    rw [EG.out]
    clear he
    go_wp2
    go_ret2
    exact ⟨rfl, hgr⟩
  · go_enter Try.func19, Try.ntmps19
    go_wp2_with fail
    refine (isModulus_no m _ (by omega)).mono ?_; rintro e w1 ⟨rfl, rfl⟩
    go_wp2
    go_ret2
    exact ⟨rfl, Grown.refl _⟩

end Go.Proofs.Ytjbhpgcibhgmbaa
