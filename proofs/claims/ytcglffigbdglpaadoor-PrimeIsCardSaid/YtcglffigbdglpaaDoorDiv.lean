/- The library's division of two words by one (math/bits.Div64, Rem64) gives the quotient and the remainder, whenever the first word is below the divisor. -/
import Derived.Test.YtcglffigbdglpaaDoorMath
import Derived.Test.YtcglffigbdglpaaDoorShelf
import Derived.Test.YtcglffigbdglpaaDoorBase
import Derived.Deep.QuietTactic
import Derived.Deep.DeepCutAuto
import Derived.Deep.CutBlock
import Derived.BigQuiet
import Derived.WalkSmall
namespace Go.Proofs.YtcglffigbdglpaaDoor
open Go.RowKit

theorem lz_any (y : Int) (w : World) (h1 : 1 ≤ y) (h2 : y ≤ 18446744073709551615) (k : Nat) (hk : k + Lib.bitLen y.toNat = 64) :
    Calls Tryd.prog 38 #[.int .u64 y] w fun e w' => e = .returned (.int .i64 (k : Int)) ∧ w = w' := by
  refine (Tryd.bits_LeadingZeros64 y w (by omega) h2).mono fun e w' ⟨he, hw⟩ => ⟨?_, hw.symm⟩
  rw [he]
  exact ret_i64 (by omega)

/-! the shifted words -/
theorem bitLen_bd : ∀ (n x : Nat), x < 2 ^ n → n ≤ 64 → 1 ≤ x → 2 ^ Lib.bitLen x ≤ 2 * x ∧ x < 2 ^ Lib.bitLen x
  | 0, x, h, _, h1 => by simp at h; omega
  | n + 1, x, h, hn, h1 => by
    have h64 : x < 2 ^ 64 := Nat.lt_of_lt_of_le h (Nat.pow_le_pow_right (by omega) hn)
    have e := Lib.bitLen_half x (by omega) h64
    by_cases hx : x = 1
    · subst hx
      have e0 : Lib.bitLen 1 = 1 := by decide
      rw [e0]; decide
    · have ih := bitLen_bd n (x / 2) (by rw [Nat.pow_succ] at h; omega) (by omega) (by omega)
      rw [e, Nat.add_comm, Nat.pow_succ]
      omega

theorem wrapu (x : Int) : IntKind.u64.wrap x = x % 18446744073709551616 := IntKind.wrap_u64 x

theorem bits_or_add (H L k : Nat) (hH : H * 2 ^ k < 18446744073709551616) (hL : L < 2 ^ k) (hk : k ≤ 63) : bits .or .u64 ((H * 2 ^ k : Nat) : Int) (L : Int) = ((H * 2 ^ k + L : Nat) : Int) := by
  have hp : (2 : Nat) ^ k ≤ 2 ^ 63 := Nat.pow_le_pow_right (by omega) hk
  rw [bits_or_u64_nat _ _ hH (by omega)]
  rw [Nat.mul_comm, Nat.two_pow_add_eq_or_of_lt hL]

theorem bits_mask (x : Int) (h0 : 0 ≤ x) (h1 : x ≤ 18446744073709551615) : bits .and .u64 x 4294967295 = x % 4294967296 := by
  obtain ⟨a, rfl⟩ := Int.eq_ofNat_of_zero_le h0
  exact Mul64.maskN a (by omega)

structure Shifted (hi lo y : Int) (k : Nat) (Y y1 y0 H L U T u1 u0 : Int) : Prop where
  eY : IntKind.u64.wrap (y * 2 ^ k) = Y
  ey1 : Y / 4294967296 = y1
  ey0 : bits .and .u64 Y 4294967295 = y0
  eH : IntKind.u64.wrap (hi * 2 ^ k) = H
  eL : lo / 2 ^ (64 - k) = L
  eU : bits .or .u64 H L = U
  eT : IntKind.u64.wrap (lo * 2 ^ k) = T
  eu1 : T / 4294967296 = u1
  eu0 : bits .and .u64 T 4294967295 = u0
  bY : Y ≤ 18446744073709551615
  bH : 0 ≤ H ∧ H ≤ 18446744073709551615
  bL : 0 ≤ L ∧ L ≤ 18446744073709551615
  bT : 0 ≤ T ∧ T ≤ 18446744073709551615
  base : Dia.DigBase 4294967296 Y U u1 y1 y0
  z0 : 0 ≤ u0
  z1 : u0 < 4294967296
  yY : Y = y * 2 ^ k
  all : (hi * 18446744073709551616 + lo) * 2 ^ k = (U * 4294967296 + u1) * 4294967296 + u0

theorem shifted (hi lo y : Int) (h0 : 0 ≤ hi) (h1 : hi < y) (h2 : y ≤ 18446744073709551615) (l0 : 0 ≤ lo) (l1 : lo ≤ 18446744073709551615) (k : Nat) (hk : k + Lib.bitLen y.toNat = 64) (hk2 : k ≤ 63) :
    ∃ Y y1 y0 H L U T u1 u0 : Int, Shifted hi lo y k Y y1 y0 H L U T u1 u0 := by
  obtain ⟨hi, rfl⟩ := Int.eq_ofNat_of_zero_le h0
  obtain ⟨lo, rfl⟩ := Int.eq_ofNat_of_zero_le l0
  obtain ⟨y, rfl⟩ := Int.eq_ofNat_of_zero_le (by omega : 0 ≤ y)
  simp only [Int.toNat_natCast] at hk
  have hb := bitLen_bd 64 y (by omega) (by omega) (by omega)
  generalize Lib.bitLen y = l at hk hb
  obtain rfl : l = 64 - k := by omega
  have pp : (2 : Nat) ^ k * 2 ^ (64 - k) = 18446744073709551616 := by rw [← Nat.pow_add, show k + (64 - k) = 64 from by omega]
  have ep : ((2 ^ k : Nat) : Int) = (2 : Int) ^ k := by simp
  have eq' : ((2 ^ (64 - k) : Nat) : Int) = (2 : Int) ^ (64 - k) := by simp
  have p0 : 1 ≤ 2 ^ k := Nat.one_le_two_pow
  have q0 : 1 ≤ 2 ^ (64 - k) := Nat.one_le_two_pow
  have yb1 : y * 2 ^ k < 18446744073709551616 := by
    have := Nat.mul_lt_mul_of_pos_right hb.2 p0
    rw [Nat.mul_comm (2 ^ (64 - k)), pp] at this; exact this
  have yb0 : 9223372036854775808 ≤ y * 2 ^ k := by
    have := Nat.mul_le_mul_right (2 ^ k) hb.1
    rw [Nat.mul_comm (2 ^ (64 - k)), pp, Nat.mul_assoc] at this; omega
  have hb1 : hi * 2 ^ k + 2 ^ k ≤ y * 2 ^ k := by
    have := Nat.mul_le_mul_right (2 ^ k) (show hi + 1 ≤ y by omega)
    rw [Nat.add_mul, Nat.one_mul] at this; exact this
  have lb : lo / 2 ^ (64 - k) < 2 ^ k := by
    rw [Nat.div_lt_iff_lt_mul q0, pp]; omega
  have le : lo * 2 ^ k = lo / 2 ^ (64 - k) * 18446744073709551616 + lo % 2 ^ (64 - k) * 2 ^ k := by
    have := Nat.div_add_mod lo (2 ^ (64 - k))
    generalize lo / 2 ^ (64 - k) = a at *
    generalize lo % 2 ^ (64 - k) = b at *
    rw [← this, Nat.add_mul, ← pp, Nat.mul_comm (2 ^ (64 - k)) a, Nat.mul_assoc, Nat.mul_comm (2 ^ (64 - k))]
  have lt : lo % 2 ^ (64 - k) * 2 ^ k < 18446744073709551616 := by
    have := Nat.mul_lt_mul_of_pos_right (Nat.mod_lt lo q0) p0
    rw [Nat.mul_comm (2 ^ (64 - k)), pp] at this; exact this
  have eor := bits_or_add hi (lo / 2 ^ (64 - k)) k (by omega) lb hk2
  have c1 : (y : Int) * 2 ^ k = ((y * 2 ^ k : Nat) : Int) := by rw [Int.natCast_mul, ep]
  have c2 : (hi : Int) * 2 ^ k = ((hi * 2 ^ k : Nat) : Int) := by rw [Int.natCast_mul, ep]
  have c3 : (lo : Int) * 2 ^ k = ((lo * 2 ^ k : Nat) : Int) := by rw [Int.natCast_mul, ep]
  have c4 : (lo : Int) / 2 ^ (64 - k) = ((lo / 2 ^ (64 - k) : Nat) : Int) := by rw [Int.natCast_ediv, eq']
  have eall : ((hi : Int) * 18446744073709551616 + lo) * 2 ^ k = ((hi * 2 ^ k : Nat) : Int) * 18446744073709551616 + ((lo * 2 ^ k : Nat) : Int) := by
    rw [← c2, ← c3, Int.add_mul, Int.mul_right_comm]
  clear pp ep eq' hb
  generalize hyp : y * 2 ^ k = Yn at *
  generalize hhp : hi * 2 ^ k = Hn at *
  generalize hlp : lo * 2 ^ k = Ln at *
  generalize hlq : lo / 2 ^ (64 - k) = Qn at *
  generalize hlm : lo % 2 ^ (64 - k) * 2 ^ k = Rn at *
  generalize 2 ^ k = pn at *
  refine ⟨(Yn : Int), ((Yn / 4294967296 : Nat) : Int), ((Yn % 4294967296 : Nat) : Int), (Hn : Int), (Qn : Int), ((Hn + Qn : Nat) : Int), (Rn : Int), ((Rn / 4294967296 : Nat) : Int), ((Rn % 4294967296 : Nat) : Int), ?_⟩
  refine { eY := ?_, ey1 := ?_, ey0 := ?_, eH := ?_, eL := c4, eU := eor, eT := ?_, eu1 := ?_, eu0 := ?_, bY := ?_, bH := ?_, bL := ?_, bT := ?_, base := ?_, z0 := ?_, z1 := ?_, yY := c1.symm, all := ?_ }
  · rw [c1, wrapu]; omega
  · omega
  · rw [bits_mask _ (by omega) (by omega)]; omega
  · rw [c2, wrapu]; omega
  · rw [c3, wrapu]; omega
  · omega
  · rw [bits_mask _ (by omega) (by omega)]; omega
  · omega
  · omega
  · omega
  · omega
  · exact ⟨by omega, by omega, by omega, by omega, by omega, by omega, by omega, by omega, by omega, by omega⟩
  · omega
  · omega
  · rw [eall]; omega

theorem shifted_done {hi lo y : Int} {k : Nat} {Y U u1 u0 : Int} (h0 : 0 < Y) (yY : Y = y * 2 ^ k) (all : (hi * 18446744073709551616 + lo) * 2 ^ k = (U * 4294967296 + u1) * 4294967296 + u0) :
    (U * 4294967296 + u1) / Y * 4294967296 + ((U * 4294967296 + u1) % Y * 4294967296 + u0) / Y = (hi * 18446744073709551616 + lo) / y ∧ ((U * 4294967296 + u1) % Y * 4294967296 + u0) % Y / 2 ^ k = (hi * 18446744073709551616 + lo) % y := by
  have hp : (0 : Int) < 2 ^ k := Int.pow_pos (by omega)
  obtain ⟨t1, t2⟩ := Dia.two_digits (U := U) (u1 := u1) (u0 := u0) (B := 4294967296) h0
  obtain ⟨s1, s2⟩ := Dia.scaled (N := hi * 18446744073709551616 + lo) (y := y) hp
  rw [all, ← yY] at s1 s2
  exact ⟨by rw [← t1, s1], by rw [← t2, s2, Int.mul_ediv_cancel _ (by omega)]⟩

set_option maxHeartbeats 1000000 in
theorem div_long (hi lo y : Int) (w : World) (h0 : 1 ≤ hi) (h1 : hi < y) (h2 : y ≤ 18446744073709551615) (l0 : 0 ≤ lo) (l1 : lo ≤ 18446744073709551615) (k : Nat) (hk : k + Lib.bitLen y.toNat = 64) (hk2 : k ≤ 63) :
    Calls Tryd.prog 37 #[.int .u64 hi, .int .u64 lo, .int .u64 y] w fun e w' => e = .returned (.tuple #[.int .u64 ((hi * 18446744073709551616 + lo) / y), .int .u64 ((hi * 18446744073709551616 + lo) % y)]) ∧ w = w' := by
  have t1 : (y == 0) = false := by rw [beq_eq_false_iff_ne]; omega
  have t2 : (hi == 0) = false := by rw [beq_eq_false_iff_ne]; omega
  have c1 := lz_any y w (by omega) h2 k hk
  have C1 := Lib.hid c1
  clear c1
  obtain ⟨Y, y1, y0, H, L, U, T, u1, u0, hS⟩ := shifted hi lo y (by omega) h1 h2 l0 l1 k hk hk2
  obtain ⟨eY, ey1, ey0, eH, eL, eU, eT, eu1, eu0, bY, ⟨bH0, bH1⟩, ⟨bL0, bL1⟩, ⟨bT0, bT1⟩, base, z0, z1, yY, all⟩ := id hS
  have YY := Lib.hid yY; clear yY
  have ALL := Lib.hid all; clear all
  have s1 := base.y1pos
  have s2 := base.b1
  have s3 := base.U0
  have s4 : U ≤ 18446744073709551615 := by have := base.U1; omega
  have s5 := base.a0
  have s6 := base.a1
  have s7 := base.u0
  have s8 := base.u1
  have t3 : (y1 == 0) = false := by rw [beq_eq_false_iff_ne]; omega
  have hA := Dia.DigInv.start base
  have erA : IntKind.u64.wrap (U - IntKind.u64.wrap (U / y1 * y1)) = U - U / y1 * y1 := by
    have := hA.r0; have := hA.r1; rw [wrapu, wrapu]; omega
  obtain ⟨rA, hrA⟩ : ∃ r, U - U / y1 * y1 = r := ⟨_, rfl⟩
  rw [hrA] at hA erA
  obtain ⟨D1, hD1⟩ : ∃ d, (U * 4294967296 + u1) / Y = d := ⟨_, rfl⟩
  have HD1 := Lib.hid hD1; clear hD1 hrA
  clear hS hk
  go_enter Tryd.func37, Tryd.ntmps37
  go_wp2_with fail
  refine C1.out.mono ?_; rintro e w' ⟨rfl, rfl⟩
  go_upto_block 0 with fail
  go_cut [15, 16] (fun s _ wx => s = .int .u64 D1 ∧ wx = w)
  case first =>
    go_wp2_with fail
    go_loop [15, 16] (fun a b => ∃ q r : Int, Dia.DigInv 4294967296 Y U u1 y1 q r ∧ a = .int .u64 q ∧ b = .int .u64 r) (fun a _ => (intOf a).toNat)
    case atStart => exact ⟨_, _, hA, rfl, rfl⟩
    case round =>
      obtain ⟨q, r, hI, rfl, rfl⟩ := hrel
      have r0 := hI.r0
      have r1 := hI.r1
      have q0 : 0 ≤ q := by have := hI.lo; have := base.dig0; omega
      have q1 := hI.hi
      by_cases hb : 4294967296 ≤ q
      · by_cases hr : r + y1 < 4294967296
        · have hN := hI.next base (Or.inl hb) hr
          have hr' : ¬ 4294967296 ≤ r + y1 := by omega
          go_wp2
          go_round
          case rel => exact ⟨_, _, hN, rfl, rfl⟩
          case measure => simp [intOf]; omega
        · have hN := hI.brk base (Or.inl hb) (by omega)
          rw [HD1.out] at hN
          have hr' : 4294967296 ≤ r + y1 := by omega
          have HN := Lib.hid hN; clear hN
          go_wp2
          go_meet
          exact ⟨by rw [HN.out], rfl⟩
      · have m0 : 0 ≤ q * y0 := Int.mul_nonneg q0 s5
        have m1 : q * y0 ≤ 18446744073709551615 := by
          have a1 : q * y0 ≤ 4294967295 * y0 := Int.mul_le_mul_of_nonneg_right (by omega) s5
          omega
        by_cases ht : 4294967296 * r + u1 < q * y0
        · by_cases hr : r + y1 < 4294967296
          · have hN := hI.next base (Or.inr (by omega)) hr
            have hr' : ¬ 4294967296 ≤ r + y1 := by omega
            have q2 : 1 ≤ q := by have := hI.big base (Or.inr (by omega)); have := base.dig0; omega
            go_wp2
            go_round
            case rel => exact ⟨_, _, hN, rfl, rfl⟩
            case measure => simp [intOf]; omega
          · have hN := hI.brk base (Or.inr (by omega)) (by omega)
            rw [HD1.out] at hN
            have hr' : 4294967296 ≤ r + y1 := by omega
            have q2 : 1 ≤ q := by have := hI.big base (Or.inr (by omega)); have := base.dig0; omega
            have HN := Lib.hid hN; clear hN
            go_wp2
            go_meet
            exact ⟨by rw [HN.out], rfl⟩
        · have hN := hI.fin base (by omega)
          rw [HD1.out] at hN
          have HN := Lib.hid hN; clear hN
          go_wp2
          go_meet
          exact ⟨by rw [HN.out], rfl⟩
  case rest =>
    obtain ⟨rfl, rfl⟩ := hcut
    have hy0 := base.Ypos
    have hd0 := base.dig0
    have hd1 := base.digB
    rw [HD1.out] at hd0 hd1
    have hfin := shifted_done hy0 YY.out ALL.out
    rw [HD1.out] at hfin
    have hV : U * 4294967296 + u1 - D1 * Y = (U * 4294967296 + u1) % Y := by rw [← HD1.out]; exact Dia.digit_rest
    have v0 : 0 ≤ (U * 4294967296 + u1) % Y := Int.emod_nonneg _ (by omega)
    have v1 : (U * 4294967296 + u1) % Y < Y := Int.emod_lt_of_pos _ hy0
    obtain ⟨V, eV⟩ : ∃ V, (U * 4294967296 + u1) % Y = V := ⟨_, rfl⟩
    rw [eV] at hV v0 v1 hfin
    have erV : IntKind.u64.wrap (IntKind.u64.wrap (IntKind.u64.wrap (U * 4294967296) + u1) - IntKind.u64.wrap (D1 * Y)) = V := by
      rw [wrapu, wrapu, wrapu, wrapu]; omega
    have base2 : Dia.DigBase 4294967296 Y V u0 y1 y0 := ⟨base.hY, base.hB, base.a0, base.a1, base.b0, base.b1, v0, v1, z0, z1⟩
    have v2 : V ≤ 18446744073709551615 := by omega
    have hB := Dia.DigInv.start base2
    have erB : IntKind.u64.wrap (V - IntKind.u64.wrap (V / y1 * y1)) = V - V / y1 * y1 := by
      have := hB.r0; have := hB.r1; rw [wrapu, wrapu]; omega
    obtain ⟨rB, hrB⟩ : ∃ r, V - V / y1 * y1 = r := ⟨_, rfl⟩
    rw [hrB] at hB erB
    have e0 := base2.dig0
    have e1 := base2.digB
    have x0 : 0 ≤ (V * 4294967296 + u0) % Y := Int.emod_nonneg _ (by omega)
    have x1 : (V * 4294967296 + u0) % Y < Y := Int.emod_lt_of_pos _ hy0
    have hX : V * 4294967296 + u0 - (V * 4294967296 + u0) / Y * Y = (V * 4294967296 + u0) % Y := Dia.digit_rest
    obtain ⟨D0, hD0⟩ : ∃ d, (V * 4294967296 + u0) / Y = d := ⟨_, rfl⟩
    obtain ⟨X, eX⟩ : ∃ X, (V * 4294967296 + u0) % Y = X := ⟨_, rfl⟩
    rw [hD0] at e0 e1 hX hfin
    rw [eX] at x0 x1 hX hfin
    have erX : IntKind.u64.wrap (IntKind.u64.wrap (IntKind.u64.wrap (V * 4294967296) + u0) - IntKind.u64.wrap (D0 * Y)) = X := by
      rw [wrapu, wrapu, wrapu, wrapu]; omega
    have erD : IntKind.u64.wrap (IntKind.u64.wrap (D1 * 4294967296) + D0) = D1 * 4294967296 + D0 := by
      rw [wrapu, wrapu]; omega
    have x2 : X ≤ 18446744073709551615 := by omega
    have HD0 := Lib.hid hD0; clear hD0
    have HF := Lib.hid hfin; clear hfin
    clear hV eV hrB hX eX erA hA
    go_upto_block 2 with fail
    go_cut [18, 16] (fun s _ wx => s = .int .u64 D0 ∧ wx = wc)
    case first =>
      go_wp2_with fail
      go_loop [18, 16] (fun a b => ∃ q r : Int, Dia.DigInv 4294967296 Y V u0 y1 q r ∧ a = .int .u64 q ∧ b = .int .u64 r) (fun a _ => (intOf a).toNat)
      case atStart => exact ⟨_, _, hB, rfl, rfl⟩
      case round =>
        obtain ⟨q, r, hI, rfl, rfl⟩ := hrel
        have r0 := hI.r0
        have r1 := hI.r1
        have q0 : 0 ≤ q := by have := hI.lo; have := base2.dig0; omega
        have q1 := hI.hi
        by_cases hb : 4294967296 ≤ q
        · by_cases hr : r + y1 < 4294967296
          · have hN := hI.next base2 (Or.inl hb) hr
            have hr' : ¬ 4294967296 ≤ r + y1 := by omega
            go_wp2
            go_round
            case rel => exact ⟨_, _, hN, rfl, rfl⟩
            case measure => simp [intOf]; omega
          · have hN := hI.brk base2 (Or.inl hb) (by omega)
            rw [HD0.out] at hN
            have hr' : 4294967296 ≤ r + y1 := by omega
            have HN := Lib.hid hN; clear hN
            go_wp2
            go_meet
            exact ⟨by rw [HN.out], rfl⟩
        · have m0 : 0 ≤ q * y0 := Int.mul_nonneg q0 s5
          have m1 : q * y0 ≤ 18446744073709551615 := by
            have a1 : q * y0 ≤ 4294967295 * y0 := Int.mul_le_mul_of_nonneg_right (by omega) s5
            omega
          by_cases ht : 4294967296 * r + u0 < q * y0
          · by_cases hr : r + y1 < 4294967296
            · have hN := hI.next base2 (Or.inr (by omega)) hr
              have hr' : ¬ 4294967296 ≤ r + y1 := by omega
              have q2 : 1 ≤ q := by have := hI.big base2 (Or.inr (by omega)); have := base2.dig0; omega
              go_wp2
              go_round
              case rel => exact ⟨_, _, hN, rfl, rfl⟩
              case measure => simp [intOf]; omega
            · have hN := hI.brk base2 (Or.inr (by omega)) (by omega)
              rw [HD0.out] at hN
              have hr' : 4294967296 ≤ r + y1 := by omega
              have q2 : 1 ≤ q := by have := hI.big base2 (Or.inr (by omega)); have := base2.dig0; omega
              have HN := Lib.hid hN; clear hN
              go_wp2
              go_meet
              exact ⟨by rw [HN.out], rfl⟩
          · have hN := hI.fin base2 (by omega)
            rw [HD0.out] at hN
            have HN := Lib.hid hN; clear hN
            go_wp2
            go_meet
            exact ⟨by rw [HN.out], rfl⟩
    case rest =>
      obtain ⟨rfl, rfl⟩ := hcut
      go_wp2
      go_ret2
      exact ⟨ret_u64u64 HF.out.1 HF.out.2, rfl⟩

theorem div_short (lo y : Int) (w : World) (h1 : 0 < y) (h2 : y ≤ 18446744073709551615) (l0 : 0 ≤ lo) (l1 : lo ≤ 18446744073709551615) :
    Calls Tryd.prog 37 #[.int .u64 0, .int .u64 lo, .int .u64 y] w fun e w' => e = .returned (.tuple #[.int .u64 (lo / y), .int .u64 (lo % y)]) ∧ Dr w w' := by
  have t1 : (y == 0) = false := by rw [beq_eq_false_iff_ne]; omega
  have t2 : ¬ y ≤ 0 := by omega
  go_enter Tryd.func37, Tryd.ntmps37
  go_wp2
  go_quiet (fail)
  go_wp2
  go_ret2
  exact ⟨rfl, (Dr.refl _).drewN _⟩

/-- math/bits.Div64, below its panic: the quotient and the remainder. -/
theorem div_any (hi lo y : Int) (w : World) (h0 : 0 ≤ hi) (h1 : hi < y) (h2 : y ≤ 18446744073709551615) (l0 : 0 ≤ lo) (l1 : lo ≤ 18446744073709551615) :
    Calls Tryd.prog 37 #[.int .u64 hi, .int .u64 lo, .int .u64 y] w fun e w' => e = .returned (.tuple #[.int .u64 ((hi * 18446744073709551616 + lo) / y), .int .u64 ((hi * 18446744073709551616 + lo) % y)]) ∧ Dr w w' := by
  by_cases hz : hi = 0
  · subst hz
    rw [Int.zero_mul, Int.zero_add]
    exact div_short lo y w h1 h2 l0 l1
  · have hb := bitLen_bd 64 y.toNat (by omega) (by omega) (by omega)
    have hl := Lib.bitLen_le y.toNat 64 (by omega) (by omega)
    have hg : 1 ≤ Lib.bitLen y.toNat := by
      refine Nat.one_le_iff_ne_zero.2 fun h => ?_
      rw [h] at hb; simp at hb; omega
    exact (div_long hi lo y w (by omega) h1 h2 l0 l1 (64 - Lib.bitLen y.toNat) (by omega) (by omega)).mono fun e w' ⟨he, hw⟩ => ⟨he, hw ▸ Dr.refl _⟩

/-- math/bits.Rem64: the remainder of two words. -/
theorem rem_any (hi lo y : Int) (w : World) (h0 : 0 ≤ hi) (h1 : hi ≤ 18446744073709551615) (y0 : 1 ≤ y) (h2 : y ≤ 18446744073709551615) (l0 : 0 ≤ lo) (l1 : lo ≤ 18446744073709551615) :
    Calls Tryd.prog 35 #[.int .u64 hi, .int .u64 lo, .int .u64 y] w fun e w' => e = .returned (.int .u64 ((hi * 18446744073709551616 + lo) % y)) ∧ Dr w w' := by
  have t1 : (y == 0) = false := by rw [beq_eq_false_iff_ne]; omega
  have b0 := Int.emod_nonneg hi (by omega : y ≠ 0)
  have b1 := Int.emod_lt_of_pos hi (by omega : 0 < y)
  have e : (hi % y * 18446744073709551616 + lo) % y = (hi * 18446744073709551616 + lo) % y := by
    rw [← Dia.add_emod_l, Dia.mul_emod_l, Dia.add_emod_l]
  have E := Lib.hid e; clear e
  go_enter Tryd.func35, Tryd.ntmps35
  go_wp2_with fail
  refine (div_any _ lo y _ b0 b1 h2 l0 l1).mono ?_; rintro e w1 ⟨rfl, hg⟩
  go_wp2
  go_ret
  exact ⟨ret_u64 E.out, hg⟩

end Go.Proofs.YtcglffigbdglpaaDoor
