/- Merged texts: Ref3t, Ref3z, Fop, Neg, Turn, Good, Part, Put4, Two. -/
import Derived.Test.YtfpneojhhkfhpaaM2
import Derived.Test.YtfpneojhhkfhpaaM1
import Derived.Laws.FloatArith
import GoSem.Op.Unary
import Derived.Laws.Cover2
/- The reference's Times (layer 3). -/
namespace Go.Proofs.Ytfpneojhhkfhpaa
open Go.RowKit

set_option maxHeartbeats 8000000 in
theorem times_any (g : Nat) (f : Nat → Int) (x y : Nat) (w : World) (hx : x % 9223372036854775808 < 9218868437227405312) (hy : y % 9223372036854775808 < 9218868437227405312) (hf : LongAt w g f) (hE0 : -1150 ≤ pE x + pE y) (hE1 : pE x + pE y ≤ 1800) (hb : ∀ i, (f i).natAbs ≤ 1125899906842624) :
    Calls Try.prog 36 #[.pointer (some ⟨g, 0, none⟩), .float .f64 x, .float .f64 y] w fun r w' => r = .returned (.tuple #[]) ∧ ∃ f', LongAt w' g f' ∧ lval f' = lval f + pM x * pM y * 2 ^ (pE x + pE y + 1200).toNat ∧ (∀ j, (f' j - f j).natAbs ≤ 12884901888) ∧ Touch g w w' := by
  obtain ⟨M, hM⟩ : ∃ M, M = pA x := ⟨_, rfl⟩
  obtain ⟨N, hN⟩ : ∃ N, N = pA y := ⟨_, rfl⟩
  obtain ⟨E, hE⟩ : ∃ E : Nat, (E : Int) = pE x + pE y + 1200 := ⟨(pE x + pE y + 1200).toNat, by omega⟩
  have M53 : M < 9007199254740992 := by rw [hM]; exact pA_lt x
  have N53 : N < 9007199254740992 := by rw [hN]; exact pA_lt y
  have a1 := pM_abs x
  have a2 := pM_abs y
  rw [← hM] at a1
  rw [← hN] at a2
  have x0 := pE_ge x
  have x1 := pE_le hx
  have y0 := pE_ge y
  have y1 := pE_le hy
  obtain ⟨X, hX⟩ : ∃ X, X = pE x := ⟨_, rfl⟩
  obtain ⟨Y, hY⟩ : ∃ Y, Y = pE y := ⟨_, rfl⟩
  have hpx := fun w => parts_any x w
  have hpy := fun w => parts_any y w
  rw [← hX] at hpx x0 x1
  rw [← hY] at hpy y0 y1
  rw [← hX, ← hY] at hE hE0 hE1 ⊢
  obtain ⟨px, hpxe⟩ : ∃ p, p = pM x := ⟨_, rfl⟩
  obtain ⟨py, hpye⟩ : ∃ p, p = pM y := ⟨_, rfl⟩
  rw [← hpxe] at hpx a1 ⊢
  rw [← hpye] at hpy a2 ⊢
  clear hM hN hX hY hpxe hpye hx hy
  have eE : (X + Y + 1200).toNat = E := by omega
  rw [eE]
  obtain ⟨sg, hsg⟩ : ∃ sg : Int, px * py = sg * ((M * N : Nat) : Int) ∧ sg = (if decide (px < 0) != decide (py < 0) then -1 else 1) := by
    refine ⟨_, ?_, rfl⟩
    rcases Int.lt_or_le px 0 with c | c <;> rcases Int.lt_or_le py 0 with d | d
    · have e1 : px = -(M : Int) := by omega
      have e2 : py = -(N : Int) := by omega
      simp [c, d]
      rw [e1, e2, Int.neg_mul_neg]
    · have e1 : px = -(M : Int) := by omega
      have e2 : py = (N : Int) := by omega
      have d' : ¬ py < 0 := by omega
      simp [c, d']
      rw [e1, e2, Int.neg_mul]
    · have e1 : px = (M : Int) := by omega
      have e2 : py = -(N : Int) := by omega
      have c' : ¬ px < 0 := by omega
      simp [c', d]
      rw [e1, e2, Int.mul_neg]
    · have e1 : px = (M : Int) := by omega
      have e2 : py = (N : Int) := by omega
      have c' : ¬ px < 0 := by omega
      have d' : ¬ py < 0 := by omega
      simp [c', d']
      rw [e1, e2]
  rw [hsg.1]
  replace hsg := hsg.2
  obtain ⟨P0, hP0⟩ : ∃ P, P = M % 134217728 := ⟨_, rfl⟩
  obtain ⟨P1, hP1⟩ : ∃ P, P = M / 134217728 % 134217728 := ⟨_, rfl⟩
  obtain ⟨Q0, hQ0⟩ : ∃ P, P = N % 134217728 := ⟨_, rfl⟩
  obtain ⟨Q1, hQ1⟩ : ∃ P, P = N / 134217728 % 134217728 := ⟨_, rfl⟩
  have eA0 : bits .and .i64 (M : Int) 134217727 = (P0 : Int) := by rw [bits_27i]; omega
  have eA1 : bits .and .i64 ((M : Int) / 134217728) 134217727 = (P1 : Int) := by rw [bits_27i]; omega
  have eB0 : bits .and .i64 (N : Int) 134217727 = (Q0 : Int) := by rw [bits_27i]; omega
  have eB1 : bits .and .i64 ((N : Int) / 134217728) 134217727 = (Q1 : Int) := by rw [bits_27i]; omega
  have P0e := Lib.hid (show P0 = M / 2 ^ (27 * 0) % 134217728 by simp [hP0])
  have P1e := Lib.hid (show P1 = M / 2 ^ (27 * 1) % 134217728 by simp [hP1])
  have Q0e := Lib.hid (show Q0 = N / 2 ^ (27 * 0) % 134217728 by simp [hQ0])
  have Q1e := Lib.hid (show Q1 = N / 2 ^ (27 * 1) % 134217728 by simp [hQ1])
  have P0b : P0 < 134217728 := by omega
  have P1b : P1 < 134217728 := by omega
  have Q0b : Q0 < 134217728 := by omega
  have Q1b : Q1 < 134217728 := by omega
  clear hP0 hP1 hQ0 hQ1
  rcases Int.lt_or_le px 0 with c | c <;> rcases Int.lt_or_le py 0 with d | d
  · have c1 : px < 0 := c
    have d1 : py < 0 := d
    have e1 : -px = (M : Int) := by omega
    have e2 : -py = (N : Int) := by omega
    have hs : sg = 1 := by rw [hsg]; simp [c1, d1]
    subst hs
    have t1 : decide (px < 0) = true := decide_eq_true c1
    have t2 : decide (py < 0) = true := decide_eq_true d1
    clear a1 a2 c d hsg
    go_enter Try.func36, Try.ntmps36
    go_wp2_with fail
    refine (hpx _).mono ?_; rintro r w1 ⟨rfl, rfl⟩
    go_wp2_with fail
    refine (hpy _).mono ?_; rintro r w1 ⟨rfl, rfl⟩
    go_wp2
    go_loopw [11, 12, 13, 14, 15] (fun a _ _ _ _ wr => ∃ (f' : Nat → Int) (i : Nat), PieceInv N M (1) E (lval f) (lval f') i ∧ i ≤ 2 ∧ a = .int .i64 (i : Int) ∧ LongAt wr g f' ∧ (∀ j, (f' j - f j).natAbs ≤ i * 6442450944) ∧ Touch g w wr) (fun a _ _ _ _ _ => (2 - intOf a).toNat)
    case atStart => exact ⟨f, 0, PieceInv.start _ _ _ _ _, by omega, rfl, hf, fun j => by simp, Touch.refl _ _⟩
    case round =>
      obtain ⟨f', i, hI, hi, rfl, hL, hd, hB⟩ := hrel
      rcases (show i = 0 ∨ i = 1 ∨ i = 2 by omega) with rfl | rfl | rfl
      · rw [show ((0 : Nat) : Int) = 0 from rfl]
        go_wp2
        go_loopw [13, 14, 15] (fun a _ _ wr => ∃ (f2 : Nat → Int) (k : Nat), PieceInv P0 N (1) (E + 27 * 0) (lval f') (lval f2) k ∧ k ≤ 2 ∧ a = .int .i64 (k : Int) ∧ LongAt wr g f2 ∧ (∀ j, (f2 j - f j).natAbs ≤ 0 * 6442450944 + k * 3221225472) ∧ Touch g w wr) (fun a _ _ _ => (2 - intOf a).toNat)
        case atStart => exact ⟨f', 0, PieceInv.start _ _ _ _ _, by omega, by simp, hL, fun j => by have := hd j; omega, hB⟩
        case round =>
          obtain ⟨f2, k, hI2, hk, rfl, hL2, hd2, hB2⟩ := hrel
          rcases (show k = 0 ∨ k = 1 ∨ k = 2 by omega) with rfl | rfl | rfl
          · have hR : P0 * Q0 < 18014398509481984 := Nat.lt_of_lt_of_le (Nat.mul_lt_mul_of_lt_of_le P0b (Nat.le_of_lt Q0b) (by decide)) (by decide)
            obtain ⟨R, hRe⟩ : ∃ R, R = P0 * Q0 := ⟨_, rfl⟩
            have eR : (P0 : Int) * (Q0 : Int) = (R : Int) := by rw [hRe, Int.natCast_mul]
            rw [← hRe] at hR
            have hReH := Lib.hid hRe
            clear hRe
            have hIH := Lib.hid hI2
            clear hI2
            go_wp2_with fail
            refine (put_any g f2 _ _ _ hL2 (by omega) (by omega) (by omega) (by omega) (fun j => by have := hd2 j; have := hb j; omega)).mono ?_; rintro r w1 ⟨rfl, f3, l3, v3, d3, e3⟩
            have hN := hIH.out.next (Q := Q0) (F := E + 27 * 0 + 27 * 0) (v' := lval f3) (a := (R : Int)) Q0e.out rfl (by rw [← hReH.out]; omega) (by rw [v3]; refine congrArg (fun t => lval f2 + ((R : Int)) * 2 ^ t) ?_; omega)
            go_wp2
            go_roundw
            case rel => exact ⟨f3, 1, hN, by omega, by simp, l3, fun j => by have := d3 j; have := hd2 j; omega, hB2.trans e3⟩
            case measure => simp [intOf]

          · have hR : P0 * Q1 < 18014398509481984 := Nat.lt_of_lt_of_le (Nat.mul_lt_mul_of_lt_of_le P0b (Nat.le_of_lt Q1b) (by decide)) (by decide)
            obtain ⟨R, hRe⟩ : ∃ R, R = P0 * Q1 := ⟨_, rfl⟩
            have eR : (P0 : Int) * (Q1 : Int) = (R : Int) := by rw [hRe, Int.natCast_mul]
            rw [← hRe] at hR
            have hReH := Lib.hid hRe
            clear hRe
            have hIH := Lib.hid hI2
            clear hI2
            go_wp2_with fail
            refine (put_any g f2 _ _ _ hL2 (by omega) (by omega) (by omega) (by omega) (fun j => by have := hd2 j; have := hb j; omega)).mono ?_; rintro r w1 ⟨rfl, f3, l3, v3, d3, e3⟩
            have hN := hIH.out.next (Q := Q1) (F := E + 27 * 0 + 27 * 1) (v' := lval f3) (a := (R : Int)) Q1e.out rfl (by rw [← hReH.out]; omega) (by rw [v3]; refine congrArg (fun t => lval f2 + ((R : Int)) * 2 ^ t) ?_; omega)
            go_wp2
            go_roundw
            case rel => exact ⟨f3, 2, hN, by omega, by simp, l3, fun j => by have := d3 j; have := hd2 j; omega, hB2.trans e3⟩
            case measure => simp [intOf]

          · have hD := hI2.done (by have : (2 : Nat) ^ (27 * 2) = 18014398509481984 := rfl
                                    omega)
            have hN := hI.next (Q := P0) (F := E + 27 * 0) (a := 1 * ((P0 * N : Nat) : Int)) P0e.out rfl (by rw [Nat.mul_comm]) hD
            have hNH := Lib.hid hN
            clear hN hD hI2 hI
            go_wp2
            go_roundw
            case rel => exact ⟨f2, 1, hNH.out, by omega, by simp, hL2, fun j => by have := hd2 j; omega, hB2⟩
            case measure => simp [intOf]

      · rw [show ((1 : Nat) : Int) = 1 from rfl]
        go_wp2
        go_loopw [13, 14, 15] (fun a _ _ wr => ∃ (f2 : Nat → Int) (k : Nat), PieceInv P1 N (1) (E + 27 * 1) (lval f') (lval f2) k ∧ k ≤ 2 ∧ a = .int .i64 (k : Int) ∧ LongAt wr g f2 ∧ (∀ j, (f2 j - f j).natAbs ≤ 1 * 6442450944 + k * 3221225472) ∧ Touch g w wr) (fun a _ _ _ => (2 - intOf a).toNat)
        case atStart => exact ⟨f', 0, PieceInv.start _ _ _ _ _, by omega, by simp, hL, fun j => by have := hd j; omega, hB⟩
        case round =>
          obtain ⟨f2, k, hI2, hk, rfl, hL2, hd2, hB2⟩ := hrel
          rcases (show k = 0 ∨ k = 1 ∨ k = 2 by omega) with rfl | rfl | rfl
          · have hR : P1 * Q0 < 18014398509481984 := Nat.lt_of_lt_of_le (Nat.mul_lt_mul_of_lt_of_le P1b (Nat.le_of_lt Q0b) (by decide)) (by decide)
            obtain ⟨R, hRe⟩ : ∃ R, R = P1 * Q0 := ⟨_, rfl⟩
            have eR : (P1 : Int) * (Q0 : Int) = (R : Int) := by rw [hRe, Int.natCast_mul]
            rw [← hRe] at hR
            have hReH := Lib.hid hRe
            clear hRe
            have hIH := Lib.hid hI2
            clear hI2
            go_wp2_with fail
            refine (put_any g f2 _ _ _ hL2 (by omega) (by omega) (by omega) (by omega) (fun j => by have := hd2 j; have := hb j; omega)).mono ?_; rintro r w1 ⟨rfl, f3, l3, v3, d3, e3⟩
            have hN := hIH.out.next (Q := Q0) (F := E + 27 * 1 + 27 * 0) (v' := lval f3) (a := (R : Int)) Q0e.out rfl (by rw [← hReH.out]; omega) (by rw [v3]; refine congrArg (fun t => lval f2 + ((R : Int)) * 2 ^ t) ?_; omega)
            go_wp2
            go_roundw
            case rel => exact ⟨f3, 1, hN, by omega, by simp, l3, fun j => by have := d3 j; have := hd2 j; omega, hB2.trans e3⟩
            case measure => simp [intOf]

          · have hR : P1 * Q1 < 18014398509481984 := Nat.lt_of_lt_of_le (Nat.mul_lt_mul_of_lt_of_le P1b (Nat.le_of_lt Q1b) (by decide)) (by decide)
            obtain ⟨R, hRe⟩ : ∃ R, R = P1 * Q1 := ⟨_, rfl⟩
            have eR : (P1 : Int) * (Q1 : Int) = (R : Int) := by rw [hRe, Int.natCast_mul]
            rw [← hRe] at hR
            have hReH := Lib.hid hRe
            clear hRe
            have hIH := Lib.hid hI2
            clear hI2
            go_wp2_with fail
            refine (put_any g f2 _ _ _ hL2 (by omega) (by omega) (by omega) (by omega) (fun j => by have := hd2 j; have := hb j; omega)).mono ?_; rintro r w1 ⟨rfl, f3, l3, v3, d3, e3⟩
            have hN := hIH.out.next (Q := Q1) (F := E + 27 * 1 + 27 * 1) (v' := lval f3) (a := (R : Int)) Q1e.out rfl (by rw [← hReH.out]; omega) (by rw [v3]; refine congrArg (fun t => lval f2 + ((R : Int)) * 2 ^ t) ?_; omega)
            go_wp2
            go_roundw
            case rel => exact ⟨f3, 2, hN, by omega, by simp, l3, fun j => by have := d3 j; have := hd2 j; omega, hB2.trans e3⟩
            case measure => simp [intOf]

          · have hD := hI2.done (by have : (2 : Nat) ^ (27 * 2) = 18014398509481984 := rfl
                                    omega)
            have hN := hI.next (Q := P1) (F := E + 27 * 1) (a := 1 * ((P1 * N : Nat) : Int)) P1e.out rfl (by rw [Nat.mul_comm]) hD
            have hNH := Lib.hid hN
            clear hN hD hI2 hI
            go_wp2
            go_roundw
            case rel => exact ⟨f2, 2, hNH.out, by omega, by simp, hL2, fun j => by have := hd2 j; omega, hB2⟩
            case measure => simp [intOf]

      · have hD := hI.done (by have : (2 : Nat) ^ (27 * 2) = 18014398509481984 := rfl
                               omega)
        have hDH := Lib.hid hD
        clear hD hI
        go_wp2
        go_end0
        exact ⟨rfl, f', hL, by rw [hDH.out, Nat.mul_comm], hd, hB⟩
  · have c1 : px < 0 := c
    have d1 : ¬ py < 0 := by omega
    have e1 : -px = (M : Int) := by omega
    have e2 : py = (N : Int) := by omega
    have hs : sg = -1 := by rw [hsg]; simp [c1, d1]
    subst e2 hs
    have t1 : decide (px < 0) = true := decide_eq_true c1
    have t2 : decide ((N : Int) < 0) = false := decide_eq_false d1
    clear a1 a2 c d hsg
    go_enter Try.func36, Try.ntmps36
    go_wp2_with fail
    refine (hpx _).mono ?_; rintro r w1 ⟨rfl, rfl⟩
    go_wp2_with fail
    refine (hpy _).mono ?_; rintro r w1 ⟨rfl, rfl⟩
    go_wp2
    go_loopw [11, 12, 13, 14, 15] (fun a _ _ _ _ wr => ∃ (f' : Nat → Int) (i : Nat), PieceInv N M (-1) E (lval f) (lval f') i ∧ i ≤ 2 ∧ a = .int .i64 (i : Int) ∧ LongAt wr g f' ∧ (∀ j, (f' j - f j).natAbs ≤ i * 6442450944) ∧ Touch g w wr) (fun a _ _ _ _ _ => (2 - intOf a).toNat)
    case atStart => exact ⟨f, 0, PieceInv.start _ _ _ _ _, by omega, rfl, hf, fun j => by simp, Touch.refl _ _⟩
    case round =>
      obtain ⟨f', i, hI, hi, rfl, hL, hd, hB⟩ := hrel
      rcases (show i = 0 ∨ i = 1 ∨ i = 2 by omega) with rfl | rfl | rfl
      · rw [show ((0 : Nat) : Int) = 0 from rfl]
        go_wp2
        go_loopw [13, 14, 15] (fun a _ _ wr => ∃ (f2 : Nat → Int) (k : Nat), PieceInv P0 N (-1) (E + 27 * 0) (lval f') (lval f2) k ∧ k ≤ 2 ∧ a = .int .i64 (k : Int) ∧ LongAt wr g f2 ∧ (∀ j, (f2 j - f j).natAbs ≤ 0 * 6442450944 + k * 3221225472) ∧ Touch g w wr) (fun a _ _ _ => (2 - intOf a).toNat)
        case atStart => exact ⟨f', 0, PieceInv.start _ _ _ _ _, by omega, by simp, hL, fun j => by have := hd j; omega, hB⟩
        case round =>
          obtain ⟨f2, k, hI2, hk, rfl, hL2, hd2, hB2⟩ := hrel
          rcases (show k = 0 ∨ k = 1 ∨ k = 2 by omega) with rfl | rfl | rfl
          · have hR : P0 * Q0 < 18014398509481984 := Nat.lt_of_lt_of_le (Nat.mul_lt_mul_of_lt_of_le P0b (Nat.le_of_lt Q0b) (by decide)) (by decide)
            obtain ⟨R, hRe⟩ : ∃ R, R = P0 * Q0 := ⟨_, rfl⟩
            have eR : (P0 : Int) * (Q0 : Int) = (R : Int) := by rw [hRe, Int.natCast_mul]
            rw [← hRe] at hR
            have hReH := Lib.hid hRe
            clear hRe
            have hIH := Lib.hid hI2
            clear hI2
            go_wp2_with fail
            refine (put_any g f2 _ _ _ hL2 (by omega) (by omega) (by omega) (by omega) (fun j => by have := hd2 j; have := hb j; omega)).mono ?_; rintro r w1 ⟨rfl, f3, l3, v3, d3, e3⟩
            have hN := hIH.out.next (Q := Q0) (F := E + 27 * 0 + 27 * 0) (v' := lval f3) (a := -(R : Int)) Q0e.out rfl (by rw [← hReH.out]; omega) (by rw [v3]; refine congrArg (fun t => lval f2 + (-(R : Int)) * 2 ^ t) ?_; omega)
            go_wp2
            go_roundw
            case rel => exact ⟨f3, 1, hN, by omega, by simp, l3, fun j => by have := d3 j; have := hd2 j; omega, hB2.trans e3⟩
            case measure => simp [intOf]

          · have hR : P0 * Q1 < 18014398509481984 := Nat.lt_of_lt_of_le (Nat.mul_lt_mul_of_lt_of_le P0b (Nat.le_of_lt Q1b) (by decide)) (by decide)
            obtain ⟨R, hRe⟩ : ∃ R, R = P0 * Q1 := ⟨_, rfl⟩
            have eR : (P0 : Int) * (Q1 : Int) = (R : Int) := by rw [hRe, Int.natCast_mul]
            rw [← hRe] at hR
            have hReH := Lib.hid hRe
            clear hRe
            have hIH := Lib.hid hI2
            clear hI2
            go_wp2_with fail
            refine (put_any g f2 _ _ _ hL2 (by omega) (by omega) (by omega) (by omega) (fun j => by have := hd2 j; have := hb j; omega)).mono ?_; rintro r w1 ⟨rfl, f3, l3, v3, d3, e3⟩
            have hN := hIH.out.next (Q := Q1) (F := E + 27 * 0 + 27 * 1) (v' := lval f3) (a := -(R : Int)) Q1e.out rfl (by rw [← hReH.out]; omega) (by rw [v3]; refine congrArg (fun t => lval f2 + (-(R : Int)) * 2 ^ t) ?_; omega)
            go_wp2
            go_roundw
            case rel => exact ⟨f3, 2, hN, by omega, by simp, l3, fun j => by have := d3 j; have := hd2 j; omega, hB2.trans e3⟩
            case measure => simp [intOf]

          · have hD := hI2.done (by have : (2 : Nat) ^ (27 * 2) = 18014398509481984 := rfl
                                    omega)
            have hN := hI.next (Q := P0) (F := E + 27 * 0) (a := -1 * ((P0 * N : Nat) : Int)) P0e.out rfl (by rw [Nat.mul_comm]) hD
            have hNH := Lib.hid hN
            clear hN hD hI2 hI
            go_wp2
            go_roundw
            case rel => exact ⟨f2, 1, hNH.out, by omega, by simp, hL2, fun j => by have := hd2 j; omega, hB2⟩
            case measure => simp [intOf]

      · rw [show ((1 : Nat) : Int) = 1 from rfl]
        go_wp2
        go_loopw [13, 14, 15] (fun a _ _ wr => ∃ (f2 : Nat → Int) (k : Nat), PieceInv P1 N (-1) (E + 27 * 1) (lval f') (lval f2) k ∧ k ≤ 2 ∧ a = .int .i64 (k : Int) ∧ LongAt wr g f2 ∧ (∀ j, (f2 j - f j).natAbs ≤ 1 * 6442450944 + k * 3221225472) ∧ Touch g w wr) (fun a _ _ _ => (2 - intOf a).toNat)
        case atStart => exact ⟨f', 0, PieceInv.start _ _ _ _ _, by omega, by simp, hL, fun j => by have := hd j; omega, hB⟩
        case round =>
          obtain ⟨f2, k, hI2, hk, rfl, hL2, hd2, hB2⟩ := hrel
          rcases (show k = 0 ∨ k = 1 ∨ k = 2 by omega) with rfl | rfl | rfl
          · have hR : P1 * Q0 < 18014398509481984 := Nat.lt_of_lt_of_le (Nat.mul_lt_mul_of_lt_of_le P1b (Nat.le_of_lt Q0b) (by decide)) (by decide)
            obtain ⟨R, hRe⟩ : ∃ R, R = P1 * Q0 := ⟨_, rfl⟩
            have eR : (P1 : Int) * (Q0 : Int) = (R : Int) := by rw [hRe, Int.natCast_mul]
            rw [← hRe] at hR
            have hReH := Lib.hid hRe
            clear hRe
            have hIH := Lib.hid hI2
            clear hI2
            go_wp2_with fail
            refine (put_any g f2 _ _ _ hL2 (by omega) (by omega) (by omega) (by omega) (fun j => by have := hd2 j; have := hb j; omega)).mono ?_; rintro r w1 ⟨rfl, f3, l3, v3, d3, e3⟩
            have hN := hIH.out.next (Q := Q0) (F := E + 27 * 1 + 27 * 0) (v' := lval f3) (a := -(R : Int)) Q0e.out rfl (by rw [← hReH.out]; omega) (by rw [v3]; refine congrArg (fun t => lval f2 + (-(R : Int)) * 2 ^ t) ?_; omega)
            go_wp2
            go_roundw
            case rel => exact ⟨f3, 1, hN, by omega, by simp, l3, fun j => by have := d3 j; have := hd2 j; omega, hB2.trans e3⟩
            case measure => simp [intOf]

          · have hR : P1 * Q1 < 18014398509481984 := Nat.lt_of_lt_of_le (Nat.mul_lt_mul_of_lt_of_le P1b (Nat.le_of_lt Q1b) (by decide)) (by decide)
            obtain ⟨R, hRe⟩ : ∃ R, R = P1 * Q1 := ⟨_, rfl⟩
            have eR : (P1 : Int) * (Q1 : Int) = (R : Int) := by rw [hRe, Int.natCast_mul]
            rw [← hRe] at hR
            have hReH := Lib.hid hRe
            clear hRe
            have hIH := Lib.hid hI2
            clear hI2
            go_wp2_with fail
            refine (put_any g f2 _ _ _ hL2 (by omega) (by omega) (by omega) (by omega) (fun j => by have := hd2 j; have := hb j; omega)).mono ?_; rintro r w1 ⟨rfl, f3, l3, v3, d3, e3⟩
            have hN := hIH.out.next (Q := Q1) (F := E + 27 * 1 + 27 * 1) (v' := lval f3) (a := -(R : Int)) Q1e.out rfl (by rw [← hReH.out]; omega) (by rw [v3]; refine congrArg (fun t => lval f2 + (-(R : Int)) * 2 ^ t) ?_; omega)
            go_wp2
            go_roundw
            case rel => exact ⟨f3, 2, hN, by omega, by simp, l3, fun j => by have := d3 j; have := hd2 j; omega, hB2.trans e3⟩
            case measure => simp [intOf]

          · have hD := hI2.done (by have : (2 : Nat) ^ (27 * 2) = 18014398509481984 := rfl
                                    omega)
            have hN := hI.next (Q := P1) (F := E + 27 * 1) (a := -1 * ((P1 * N : Nat) : Int)) P1e.out rfl (by rw [Nat.mul_comm]) hD
            have hNH := Lib.hid hN
            clear hN hD hI2 hI
            go_wp2
            go_roundw
            case rel => exact ⟨f2, 2, hNH.out, by omega, by simp, hL2, fun j => by have := hd2 j; omega, hB2⟩
            case measure => simp [intOf]

      · have hD := hI.done (by have : (2 : Nat) ^ (27 * 2) = 18014398509481984 := rfl
                               omega)
        have hDH := Lib.hid hD
        clear hD hI
        go_wp2
        go_end0
        exact ⟨rfl, f', hL, by rw [hDH.out, Nat.mul_comm], hd, hB⟩
  · have c1 : ¬ px < 0 := by omega
    have d1 : py < 0 := d
    have e1 : px = (M : Int) := by omega
    have e2 : -py = (N : Int) := by omega
    have hs : sg = -1 := by rw [hsg]; simp [c1, d1]
    subst e1 hs
    have t1 : decide ((M : Int) < 0) = false := decide_eq_false c1
    have t2 : decide (py < 0) = true := decide_eq_true d1
    clear a1 a2 c d hsg
    go_enter Try.func36, Try.ntmps36
    go_wp2_with fail
    refine (hpx _).mono ?_; rintro r w1 ⟨rfl, rfl⟩
    go_wp2_with fail
    refine (hpy _).mono ?_; rintro r w1 ⟨rfl, rfl⟩
    go_wp2
    go_loopw [11, 12, 13, 14, 15] (fun a _ _ _ _ wr => ∃ (f' : Nat → Int) (i : Nat), PieceInv N M (-1) E (lval f) (lval f') i ∧ i ≤ 2 ∧ a = .int .i64 (i : Int) ∧ LongAt wr g f' ∧ (∀ j, (f' j - f j).natAbs ≤ i * 6442450944) ∧ Touch g w wr) (fun a _ _ _ _ _ => (2 - intOf a).toNat)
    case atStart => exact ⟨f, 0, PieceInv.start _ _ _ _ _, by omega, rfl, hf, fun j => by simp, Touch.refl _ _⟩
    case round =>
      obtain ⟨f', i, hI, hi, rfl, hL, hd, hB⟩ := hrel
      rcases (show i = 0 ∨ i = 1 ∨ i = 2 by omega) with rfl | rfl | rfl
      · rw [show ((0 : Nat) : Int) = 0 from rfl]
        go_wp2
        go_loopw [13, 14, 15] (fun a _ _ wr => ∃ (f2 : Nat → Int) (k : Nat), PieceInv P0 N (-1) (E + 27 * 0) (lval f') (lval f2) k ∧ k ≤ 2 ∧ a = .int .i64 (k : Int) ∧ LongAt wr g f2 ∧ (∀ j, (f2 j - f j).natAbs ≤ 0 * 6442450944 + k * 3221225472) ∧ Touch g w wr) (fun a _ _ _ => (2 - intOf a).toNat)
        case atStart => exact ⟨f', 0, PieceInv.start _ _ _ _ _, by omega, by simp, hL, fun j => by have := hd j; omega, hB⟩
        case round =>
          obtain ⟨f2, k, hI2, hk, rfl, hL2, hd2, hB2⟩ := hrel
          rcases (show k = 0 ∨ k = 1 ∨ k = 2 by omega) with rfl | rfl | rfl
          · have hR : P0 * Q0 < 18014398509481984 := Nat.lt_of_lt_of_le (Nat.mul_lt_mul_of_lt_of_le P0b (Nat.le_of_lt Q0b) (by decide)) (by decide)
            obtain ⟨R, hRe⟩ : ∃ R, R = P0 * Q0 := ⟨_, rfl⟩
            have eR : (P0 : Int) * (Q0 : Int) = (R : Int) := by rw [hRe, Int.natCast_mul]
            rw [← hRe] at hR
            have hReH := Lib.hid hRe
            clear hRe
            have hIH := Lib.hid hI2
            clear hI2
            go_wp2_with fail
            refine (put_any g f2 _ _ _ hL2 (by omega) (by omega) (by omega) (by omega) (fun j => by have := hd2 j; have := hb j; omega)).mono ?_; rintro r w1 ⟨rfl, f3, l3, v3, d3, e3⟩
            have hN := hIH.out.next (Q := Q0) (F := E + 27 * 0 + 27 * 0) (v' := lval f3) (a := -(R : Int)) Q0e.out rfl (by rw [← hReH.out]; omega) (by rw [v3]; refine congrArg (fun t => lval f2 + (-(R : Int)) * 2 ^ t) ?_; omega)
            go_wp2
            go_roundw
            case rel => exact ⟨f3, 1, hN, by omega, by simp, l3, fun j => by have := d3 j; have := hd2 j; omega, hB2.trans e3⟩
            case measure => simp [intOf]

          · have hR : P0 * Q1 < 18014398509481984 := Nat.lt_of_lt_of_le (Nat.mul_lt_mul_of_lt_of_le P0b (Nat.le_of_lt Q1b) (by decide)) (by decide)
            obtain ⟨R, hRe⟩ : ∃ R, R = P0 * Q1 := ⟨_, rfl⟩
            have eR : (P0 : Int) * (Q1 : Int) = (R : Int) := by rw [hRe, Int.natCast_mul]
            rw [← hRe] at hR
            have hReH := Lib.hid hRe
            clear hRe
            have hIH := Lib.hid hI2
            clear hI2
            go_wp2_with fail
            refine (put_any g f2 _ _ _ hL2 (by omega) (by omega) (by omega) (by omega) (fun j => by have := hd2 j; have := hb j; omega)).mono ?_; rintro r w1 ⟨rfl, f3, l3, v3, d3, e3⟩
            have hN := hIH.out.next (Q := Q1) (F := E + 27 * 0 + 27 * 1) (v' := lval f3) (a := -(R : Int)) Q1e.out rfl (by rw [← hReH.out]; omega) (by rw [v3]; refine congrArg (fun t => lval f2 + (-(R : Int)) * 2 ^ t) ?_; omega)
            go_wp2
            go_roundw
            case rel => exact ⟨f3, 2, hN, by omega, by simp, l3, fun j => by have := d3 j; have := hd2 j; omega, hB2.trans e3⟩
            case measure => simp [intOf]

          · have hD := hI2.done (by have : (2 : Nat) ^ (27 * 2) = 18014398509481984 := rfl
                                    omega)
            have hN := hI.next (Q := P0) (F := E + 27 * 0) (a := -1 * ((P0 * N : Nat) : Int)) P0e.out rfl (by rw [Nat.mul_comm]) hD
            have hNH := Lib.hid hN
            clear hN hD hI2 hI
            go_wp2
            go_roundw
            case rel => exact ⟨f2, 1, hNH.out, by omega, by simp, hL2, fun j => by have := hd2 j; omega, hB2⟩
            case measure => simp [intOf]

      · rw [show ((1 : Nat) : Int) = 1 from rfl]
        go_wp2
        go_loopw [13, 14, 15] (fun a _ _ wr => ∃ (f2 : Nat → Int) (k : Nat), PieceInv P1 N (-1) (E + 27 * 1) (lval f') (lval f2) k ∧ k ≤ 2 ∧ a = .int .i64 (k : Int) ∧ LongAt wr g f2 ∧ (∀ j, (f2 j - f j).natAbs ≤ 1 * 6442450944 + k * 3221225472) ∧ Touch g w wr) (fun a _ _ _ => (2 - intOf a).toNat)
        case atStart => exact ⟨f', 0, PieceInv.start _ _ _ _ _, by omega, by simp, hL, fun j => by have := hd j; omega, hB⟩
        case round =>
          obtain ⟨f2, k, hI2, hk, rfl, hL2, hd2, hB2⟩ := hrel
          rcases (show k = 0 ∨ k = 1 ∨ k = 2 by omega) with rfl | rfl | rfl
          · have hR : P1 * Q0 < 18014398509481984 := Nat.lt_of_lt_of_le (Nat.mul_lt_mul_of_lt_of_le P1b (Nat.le_of_lt Q0b) (by decide)) (by decide)
            obtain ⟨R, hRe⟩ : ∃ R, R = P1 * Q0 := ⟨_, rfl⟩
            have eR : (P1 : Int) * (Q0 : Int) = (R : Int) := by rw [hRe, Int.natCast_mul]
            rw [← hRe] at hR
            have hReH := Lib.hid hRe
            clear hRe
            have hIH := Lib.hid hI2
            clear hI2
            go_wp2_with fail
            refine (put_any g f2 _ _ _ hL2 (by omega) (by omega) (by omega) (by omega) (fun j => by have := hd2 j; have := hb j; omega)).mono ?_; rintro r w1 ⟨rfl, f3, l3, v3, d3, e3⟩
            have hN := hIH.out.next (Q := Q0) (F := E + 27 * 1 + 27 * 0) (v' := lval f3) (a := -(R : Int)) Q0e.out rfl (by rw [← hReH.out]; omega) (by rw [v3]; refine congrArg (fun t => lval f2 + (-(R : Int)) * 2 ^ t) ?_; omega)
            go_wp2
            go_roundw
            case rel => exact ⟨f3, 1, hN, by omega, by simp, l3, fun j => by have := d3 j; have := hd2 j; omega, hB2.trans e3⟩
            case measure => simp [intOf]

          · have hR : P1 * Q1 < 18014398509481984 := Nat.lt_of_lt_of_le (Nat.mul_lt_mul_of_lt_of_le P1b (Nat.le_of_lt Q1b) (by decide)) (by decide)
            obtain ⟨R, hRe⟩ : ∃ R, R = P1 * Q1 := ⟨_, rfl⟩
            have eR : (P1 : Int) * (Q1 : Int) = (R : Int) := by rw [hRe, Int.natCast_mul]
            rw [← hRe] at hR
            have hReH := Lib.hid hRe
            clear hRe
            have hIH := Lib.hid hI2
            clear hI2
            go_wp2_with fail
            refine (put_any g f2 _ _ _ hL2 (by omega) (by omega) (by omega) (by omega) (fun j => by have := hd2 j; have := hb j; omega)).mono ?_; rintro r w1 ⟨rfl, f3, l3, v3, d3, e3⟩
            have hN := hIH.out.next (Q := Q1) (F := E + 27 * 1 + 27 * 1) (v' := lval f3) (a := -(R : Int)) Q1e.out rfl (by rw [← hReH.out]; omega) (by rw [v3]; refine congrArg (fun t => lval f2 + (-(R : Int)) * 2 ^ t) ?_; omega)
            go_wp2
            go_roundw
            case rel => exact ⟨f3, 2, hN, by omega, by simp, l3, fun j => by have := d3 j; have := hd2 j; omega, hB2.trans e3⟩
            case measure => simp [intOf]

          · have hD := hI2.done (by have : (2 : Nat) ^ (27 * 2) = 18014398509481984 := rfl
                                    omega)
            have hN := hI.next (Q := P1) (F := E + 27 * 1) (a := -1 * ((P1 * N : Nat) : Int)) P1e.out rfl (by rw [Nat.mul_comm]) hD
            have hNH := Lib.hid hN
            clear hN hD hI2 hI
            go_wp2
            go_roundw
            case rel => exact ⟨f2, 2, hNH.out, by omega, by simp, hL2, fun j => by have := hd2 j; omega, hB2⟩
            case measure => simp [intOf]

      · have hD := hI.done (by have : (2 : Nat) ^ (27 * 2) = 18014398509481984 := rfl
                               omega)
        have hDH := Lib.hid hD
        clear hD hI
        go_wp2
        go_end0
        exact ⟨rfl, f', hL, by rw [hDH.out, Nat.mul_comm], hd, hB⟩
  · have c1 : ¬ px < 0 := by omega
    have d1 : ¬ py < 0 := by omega
    have e1 : px = (M : Int) := by omega
    have e2 : py = (N : Int) := by omega
    have hs : sg = 1 := by rw [hsg]; simp [c1, d1]
    subst e1 e2 hs
    have t1 : decide ((M : Int) < 0) = false := decide_eq_false c1
    have t2 : decide ((N : Int) < 0) = false := decide_eq_false d1
    clear a1 a2 c d hsg
    go_enter Try.func36, Try.ntmps36
    go_wp2_with fail
    refine (hpx _).mono ?_; rintro r w1 ⟨rfl, rfl⟩
    go_wp2_with fail
    refine (hpy _).mono ?_; rintro r w1 ⟨rfl, rfl⟩
    go_wp2
    go_loopw [11, 12, 13, 14, 15] (fun a _ _ _ _ wr => ∃ (f' : Nat → Int) (i : Nat), PieceInv N M (1) E (lval f) (lval f') i ∧ i ≤ 2 ∧ a = .int .i64 (i : Int) ∧ LongAt wr g f' ∧ (∀ j, (f' j - f j).natAbs ≤ i * 6442450944) ∧ Touch g w wr) (fun a _ _ _ _ _ => (2 - intOf a).toNat)
    case atStart => exact ⟨f, 0, PieceInv.start _ _ _ _ _, by omega, rfl, hf, fun j => by simp, Touch.refl _ _⟩
    case round =>
      obtain ⟨f', i, hI, hi, rfl, hL, hd, hB⟩ := hrel
      rcases (show i = 0 ∨ i = 1 ∨ i = 2 by omega) with rfl | rfl | rfl
      · rw [show ((0 : Nat) : Int) = 0 from rfl]
        go_wp2
        go_loopw [13, 14, 15] (fun a _ _ wr => ∃ (f2 : Nat → Int) (k : Nat), PieceInv P0 N (1) (E + 27 * 0) (lval f') (lval f2) k ∧ k ≤ 2 ∧ a = .int .i64 (k : Int) ∧ LongAt wr g f2 ∧ (∀ j, (f2 j - f j).natAbs ≤ 0 * 6442450944 + k * 3221225472) ∧ Touch g w wr) (fun a _ _ _ => (2 - intOf a).toNat)
        case atStart => exact ⟨f', 0, PieceInv.start _ _ _ _ _, by omega, by simp, hL, fun j => by have := hd j; omega, hB⟩
        case round =>
          obtain ⟨f2, k, hI2, hk, rfl, hL2, hd2, hB2⟩ := hrel
          rcases (show k = 0 ∨ k = 1 ∨ k = 2 by omega) with rfl | rfl | rfl
          · have hR : P0 * Q0 < 18014398509481984 := Nat.lt_of_lt_of_le (Nat.mul_lt_mul_of_lt_of_le P0b (Nat.le_of_lt Q0b) (by decide)) (by decide)
            obtain ⟨R, hRe⟩ : ∃ R, R = P0 * Q0 := ⟨_, rfl⟩
            have eR : (P0 : Int) * (Q0 : Int) = (R : Int) := by rw [hRe, Int.natCast_mul]
            rw [← hRe] at hR
            have hReH := Lib.hid hRe
            clear hRe
            have hIH := Lib.hid hI2
            clear hI2
            go_wp2_with fail
            refine (put_any g f2 _ _ _ hL2 (by omega) (by omega) (by omega) (by omega) (fun j => by have := hd2 j; have := hb j; omega)).mono ?_; rintro r w1 ⟨rfl, f3, l3, v3, d3, e3⟩
            have hN := hIH.out.next (Q := Q0) (F := E + 27 * 0 + 27 * 0) (v' := lval f3) (a := (R : Int)) Q0e.out rfl (by rw [← hReH.out]; omega) (by rw [v3]; refine congrArg (fun t => lval f2 + ((R : Int)) * 2 ^ t) ?_; omega)
            go_wp2
            go_roundw
            case rel => exact ⟨f3, 1, hN, by omega, by simp, l3, fun j => by have := d3 j; have := hd2 j; omega, hB2.trans e3⟩
            case measure => simp [intOf]

          · have hR : P0 * Q1 < 18014398509481984 := Nat.lt_of_lt_of_le (Nat.mul_lt_mul_of_lt_of_le P0b (Nat.le_of_lt Q1b) (by decide)) (by decide)
            obtain ⟨R, hRe⟩ : ∃ R, R = P0 * Q1 := ⟨_, rfl⟩
            have eR : (P0 : Int) * (Q1 : Int) = (R : Int) := by rw [hRe, Int.natCast_mul]
            rw [← hRe] at hR
            have hReH := Lib.hid hRe
            clear hRe
            have hIH := Lib.hid hI2
            clear hI2
            go_wp2_with fail
            refine (put_any g f2 _ _ _ hL2 (by omega) (by omega) (by omega) (by omega) (fun j => by have := hd2 j; have := hb j; omega)).mono ?_; rintro r w1 ⟨rfl, f3, l3, v3, d3, e3⟩
            have hN := hIH.out.next (Q := Q1) (F := E + 27 * 0 + 27 * 1) (v' := lval f3) (a := (R : Int)) Q1e.out rfl (by rw [← hReH.out]; omega) (by rw [v3]; refine congrArg (fun t => lval f2 + ((R : Int)) * 2 ^ t) ?_; omega)
            go_wp2
            go_roundw
            case rel => exact ⟨f3, 2, hN, by omega, by simp, l3, fun j => by have := d3 j; have := hd2 j; omega, hB2.trans e3⟩
            case measure => simp [intOf]

          · have hD := hI2.done (by have : (2 : Nat) ^ (27 * 2) = 18014398509481984 := rfl
                                    omega)
            have hN := hI.next (Q := P0) (F := E + 27 * 0) (a := 1 * ((P0 * N : Nat) : Int)) P0e.out rfl (by rw [Nat.mul_comm]) hD
            have hNH := Lib.hid hN
            clear hN hD hI2 hI
            go_wp2
            go_roundw
            case rel => exact ⟨f2, 1, hNH.out, by omega, by simp, hL2, fun j => by have := hd2 j; omega, hB2⟩
            case measure => simp [intOf]

      · rw [show ((1 : Nat) : Int) = 1 from rfl]
        go_wp2
        go_loopw [13, 14, 15] (fun a _ _ wr => ∃ (f2 : Nat → Int) (k : Nat), PieceInv P1 N (1) (E + 27 * 1) (lval f') (lval f2) k ∧ k ≤ 2 ∧ a = .int .i64 (k : Int) ∧ LongAt wr g f2 ∧ (∀ j, (f2 j - f j).natAbs ≤ 1 * 6442450944 + k * 3221225472) ∧ Touch g w wr) (fun a _ _ _ => (2 - intOf a).toNat)
        case atStart => exact ⟨f', 0, PieceInv.start _ _ _ _ _, by omega, by simp, hL, fun j => by have := hd j; omega, hB⟩
        case round =>
          obtain ⟨f2, k, hI2, hk, rfl, hL2, hd2, hB2⟩ := hrel
          rcases (show k = 0 ∨ k = 1 ∨ k = 2 by omega) with rfl | rfl | rfl
          · have hR : P1 * Q0 < 18014398509481984 := Nat.lt_of_lt_of_le (Nat.mul_lt_mul_of_lt_of_le P1b (Nat.le_of_lt Q0b) (by decide)) (by decide)
            obtain ⟨R, hRe⟩ : ∃ R, R = P1 * Q0 := ⟨_, rfl⟩
            have eR : (P1 : Int) * (Q0 : Int) = (R : Int) := by rw [hRe, Int.natCast_mul]
            rw [← hRe] at hR
            have hReH := Lib.hid hRe
            clear hRe
            have hIH := Lib.hid hI2
            clear hI2
            go_wp2_with fail
            refine (put_any g f2 _ _ _ hL2 (by omega) (by omega) (by omega) (by omega) (fun j => by have := hd2 j; have := hb j; omega)).mono ?_; rintro r w1 ⟨rfl, f3, l3, v3, d3, e3⟩
            have hN := hIH.out.next (Q := Q0) (F := E + 27 * 1 + 27 * 0) (v' := lval f3) (a := (R : Int)) Q0e.out rfl (by rw [← hReH.out]; omega) (by rw [v3]; refine congrArg (fun t => lval f2 + ((R : Int)) * 2 ^ t) ?_; omega)
            go_wp2
            go_roundw
            case rel => exact ⟨f3, 1, hN, by omega, by simp, l3, fun j => by have := d3 j; have := hd2 j; omega, hB2.trans e3⟩
            case measure => simp [intOf]

          · have hR : P1 * Q1 < 18014398509481984 := Nat.lt_of_lt_of_le (Nat.mul_lt_mul_of_lt_of_le P1b (Nat.le_of_lt Q1b) (by decide)) (by decide)
            obtain ⟨R, hRe⟩ : ∃ R, R = P1 * Q1 := ⟨_, rfl⟩
            have eR : (P1 : Int) * (Q1 : Int) = (R : Int) := by rw [hRe, Int.natCast_mul]
            rw [← hRe] at hR
            have hReH := Lib.hid hRe
            clear hRe
            have hIH := Lib.hid hI2
            clear hI2
            go_wp2_with fail
            refine (put_any g f2 _ _ _ hL2 (by omega) (by omega) (by omega) (by omega) (fun j => by have := hd2 j; have := hb j; omega)).mono ?_; rintro r w1 ⟨rfl, f3, l3, v3, d3, e3⟩
            have hN := hIH.out.next (Q := Q1) (F := E + 27 * 1 + 27 * 1) (v' := lval f3) (a := (R : Int)) Q1e.out rfl (by rw [← hReH.out]; omega) (by rw [v3]; refine congrArg (fun t => lval f2 + ((R : Int)) * 2 ^ t) ?_; omega)
            go_wp2
            go_roundw
            case rel => exact ⟨f3, 2, hN, by omega, by simp, l3, fun j => by have := d3 j; have := hd2 j; omega, hB2.trans e3⟩
            case measure => simp [intOf]

          · have hD := hI2.done (by have : (2 : Nat) ^ (27 * 2) = 18014398509481984 := rfl
                                    omega)
            have hN := hI.next (Q := P1) (F := E + 27 * 1) (a := 1 * ((P1 * N : Nat) : Int)) P1e.out rfl (by rw [Nat.mul_comm]) hD
            have hNH := Lib.hid hN
            clear hN hD hI2 hI
            go_wp2
            go_roundw
            case rel => exact ⟨f2, 2, hNH.out, by omega, by simp, hL2, fun j => by have := hd2 j; omega, hB2⟩
            case measure => simp [intOf]

      · have hD := hI.done (by have : (2 : Nat) ^ (27 * 2) = 18014398509481984 := rfl
                               omega)
        have hDH := Lib.hid hD
        clear hD hI
        go_wp2
        go_end0
        exact ⟨rfl, f', hL, by rw [hDH.out, Nat.mul_comm], hd, hB⟩
end Go.Proofs.Ytfpneojhhkfhpaa

/- The reference's Times where a factor is 0 (layer 3): nothing is added. -/
namespace Go.Proofs.Ytfpneojhhkfhpaa
open Go.RowKit

theorem put_zero (v : Value) (e : Int) (w : World) :
    Calls Try.prog 30 #[v, .int .i64 0, .int .i64 e] w fun r w' => r = .returned (.tuple #[]) ∧ w = w' := by
  go_enter Try.func30, Try.ntmps30
  go_wp2
  refine bodyPost_ret (results_none rfl _ _ _) rfl ?_
  exact ⟨rfl, rfl⟩
set_option maxHeartbeats 4000000 in
theorem times_zero (v : Value) (x y : Nat) (w : World) (hx : x % 9223372036854775808 < 9218868437227405312) (hy : y % 9223372036854775808 < 9218868437227405312) (hz : pM x = 0 ∨ pM y = 0) :
    Calls Try.prog 36 #[v, .float .f64 x, .float .f64 y] w fun r w' => r = .returned (.tuple #[]) ∧ w = w' := by
  have a1 := pM_abs x
  have a2 := pM_abs y
  have x0 := pE_ge x
  have x1 := pE_le hx
  have y0 := pE_ge y
  have y1 := pE_le hy
  have M53 := pA_lt x
  have N53 := pA_lt y
  have hpx := fun w => parts_any x w
  have hpy := fun w => parts_any y w
  obtain ⟨X, hX⟩ : ∃ X, X = pE x := ⟨_, rfl⟩
  obtain ⟨Y, hY⟩ : ∃ Y, Y = pE y := ⟨_, rfl⟩
  obtain ⟨M, hM⟩ : ∃ M, M = pA x := ⟨_, rfl⟩
  obtain ⟨N, hN⟩ : ∃ N, N = pA y := ⟨_, rfl⟩
  obtain ⟨px, hpxe⟩ : ∃ p, p = pM x := ⟨_, rfl⟩
  obtain ⟨py, hpye⟩ : ∃ p, p = pM y := ⟨_, rfl⟩
  rw [← hX] at hpx x0 x1
  rw [← hY] at hpy y0 y1
  rw [← hM] at a1 M53
  rw [← hN] at a2 N53
  rw [← hpxe] at hpx a1 hz
  rw [← hpye] at hpy a2 hz
  clear hM hN hX hY hpxe hpye hx hy
  obtain ⟨P0, hP0⟩ : ∃ P, P = M % 134217728 := ⟨_, rfl⟩
  obtain ⟨P1, hP1⟩ : ∃ P, P = M / 134217728 % 134217728 := ⟨_, rfl⟩
  obtain ⟨Q0, hQ0⟩ : ∃ P, P = N % 134217728 := ⟨_, rfl⟩
  obtain ⟨Q1, hQ1⟩ : ∃ P, P = N / 134217728 % 134217728 := ⟨_, rfl⟩
  have eA0 : bits .and .i64 (M : Int) 134217727 = (P0 : Int) := by rw [bits_27i]; omega
  have eA1 : bits .and .i64 ((M : Int) / 134217728) 134217727 = (P1 : Int) := by rw [bits_27i]; omega
  have eB0 : bits .and .i64 (N : Int) 134217727 = (Q0 : Int) := by rw [bits_27i]; omega
  have eB1 : bits .and .i64 ((N : Int) / 134217728) 134217727 = (Q1 : Int) := by rw [bits_27i]; omega
  have eZ : bits .and .i64 0 134217727 = 0 := by rw [bits_27i]; rfl
  have P0b : P0 < 134217728 := by omega
  have P1b : P1 < 134217728 := by omega
  have Q0b : Q0 < 134217728 := by omega
  have Q1b : Q1 < 134217728 := by omega
  clear hP0 hP1 hQ0 hQ1
  have t0 : decide ((0 : Int) < 0) = false := rfl
  rcases hz with rfl | rfl
  · rcases Int.lt_or_le py 0 with d | d
    · have d1 : py < 0 := d
      have e2 : -py = (N : Int) := by omega
      have t2 : decide (py < 0) = true := decide_eq_true d1
      clear a1 a2 d
      go_enter Try.func36, Try.ntmps36
      go_wp2_with fail
      refine (hpx _).mono ?_; rintro r w1 ⟨rfl, rfl⟩
      go_wp2_with fail
      refine (hpy _).mono ?_; rintro r w1 ⟨rfl, rfl⟩
      go_wp2
      go_loop [11, 12, 13, 14, 15] (fun a _ _ _ _ => ∃ (i : Nat), i ≤ 2 ∧ a = .int .i64 (i : Int)) (fun a _ _ _ _ => (2 - intOf a).toNat)
      case atStart => exact ⟨0, by omega, rfl⟩
      case round =>
        obtain ⟨i, hi, rfl⟩ := hrel
        rcases (show i = 0 ∨ i = 1 ∨ i = 2 by omega) with rfl | rfl | rfl
        · rw [show ((0 : Nat) : Int) = 0 from rfl]
          go_wp2
          go_loop [13, 14, 15] (fun a _ _ => ∃ (k : Nat), k ≤ 2 ∧ a = .int .i64 (k : Int)) (fun a _ _ => (2 - intOf a).toNat)
          case atStart => exact ⟨0, by omega, by simp⟩
          case round =>
            obtain ⟨k, hk, rfl⟩ := hrel
            rcases (show k = 0 ∨ k = 1 ∨ k = 2 by omega) with rfl | rfl | rfl
            · go_wp2_with fail
              refine (put_zero _ _ _).mono ?_; rintro r w1 ⟨rfl, rfl⟩
              go_wp2
              go_round
              case rel => exact ⟨1, by omega, by simp⟩
              case measure => simp [intOf]

            · go_wp2_with fail
              refine (put_zero _ _ _).mono ?_; rintro r w1 ⟨rfl, rfl⟩
              go_wp2
              go_round
              case rel => exact ⟨2, by omega, by simp⟩
              case measure => simp [intOf]

            · go_wp2
              go_round
              case rel => exact ⟨1, by omega, by simp⟩
              case measure => simp [intOf]

        · rw [show ((1 : Nat) : Int) = 1 from rfl]
          go_wp2
          go_loop [13, 14, 15] (fun a _ _ => ∃ (k : Nat), k ≤ 2 ∧ a = .int .i64 (k : Int)) (fun a _ _ => (2 - intOf a).toNat)
          case atStart => exact ⟨0, by omega, by simp⟩
          case round =>
            obtain ⟨k, hk, rfl⟩ := hrel
            rcases (show k = 0 ∨ k = 1 ∨ k = 2 by omega) with rfl | rfl | rfl
            · go_wp2_with fail
              refine (put_zero _ _ _).mono ?_; rintro r w1 ⟨rfl, rfl⟩
              go_wp2
              go_round
              case rel => exact ⟨1, by omega, by simp⟩
              case measure => simp [intOf]

            · go_wp2_with fail
              refine (put_zero _ _ _).mono ?_; rintro r w1 ⟨rfl, rfl⟩
              go_wp2
              go_round
              case rel => exact ⟨2, by omega, by simp⟩
              case measure => simp [intOf]

            · go_wp2
              go_round
              case rel => exact ⟨2, by omega, by simp⟩
              case measure => simp [intOf]

        · go_wp2
          go_end0
          exact ⟨rfl, rfl⟩
    · have d1 : ¬ py < 0 := by omega
      have e2 : py = (N : Int) := by omega
      subst e2
      have t2 : decide ((N : Int) < 0) = false := decide_eq_false d1
      clear a1 a2 d
      go_enter Try.func36, Try.ntmps36
      go_wp2_with fail
      refine (hpx _).mono ?_; rintro r w1 ⟨rfl, rfl⟩
      go_wp2_with fail
      refine (hpy _).mono ?_; rintro r w1 ⟨rfl, rfl⟩
      go_wp2
      go_loop [11, 12, 13, 14, 15] (fun a _ _ _ _ => ∃ (i : Nat), i ≤ 2 ∧ a = .int .i64 (i : Int)) (fun a _ _ _ _ => (2 - intOf a).toNat)
      case atStart => exact ⟨0, by omega, rfl⟩
      case round =>
        obtain ⟨i, hi, rfl⟩ := hrel
        rcases (show i = 0 ∨ i = 1 ∨ i = 2 by omega) with rfl | rfl | rfl
        · rw [show ((0 : Nat) : Int) = 0 from rfl]
          go_wp2
          go_loop [13, 14, 15] (fun a _ _ => ∃ (k : Nat), k ≤ 2 ∧ a = .int .i64 (k : Int)) (fun a _ _ => (2 - intOf a).toNat)
          case atStart => exact ⟨0, by omega, by simp⟩
          case round =>
            obtain ⟨k, hk, rfl⟩ := hrel
            rcases (show k = 0 ∨ k = 1 ∨ k = 2 by omega) with rfl | rfl | rfl
            · go_wp2_with fail
              refine (put_zero _ _ _).mono ?_; rintro r w1 ⟨rfl, rfl⟩
              go_wp2
              go_round
              case rel => exact ⟨1, by omega, by simp⟩
              case measure => simp [intOf]

            · go_wp2_with fail
              refine (put_zero _ _ _).mono ?_; rintro r w1 ⟨rfl, rfl⟩
              go_wp2
              go_round
              case rel => exact ⟨2, by omega, by simp⟩
              case measure => simp [intOf]

            · go_wp2
              go_round
              case rel => exact ⟨1, by omega, by simp⟩
              case measure => simp [intOf]

        · rw [show ((1 : Nat) : Int) = 1 from rfl]
          go_wp2
          go_loop [13, 14, 15] (fun a _ _ => ∃ (k : Nat), k ≤ 2 ∧ a = .int .i64 (k : Int)) (fun a _ _ => (2 - intOf a).toNat)
          case atStart => exact ⟨0, by omega, by simp⟩
          case round =>
            obtain ⟨k, hk, rfl⟩ := hrel
            rcases (show k = 0 ∨ k = 1 ∨ k = 2 by omega) with rfl | rfl | rfl
            · go_wp2_with fail
              refine (put_zero _ _ _).mono ?_; rintro r w1 ⟨rfl, rfl⟩
              go_wp2
              go_round
              case rel => exact ⟨1, by omega, by simp⟩
              case measure => simp [intOf]

            · go_wp2_with fail
              refine (put_zero _ _ _).mono ?_; rintro r w1 ⟨rfl, rfl⟩
              go_wp2
              go_round
              case rel => exact ⟨2, by omega, by simp⟩
              case measure => simp [intOf]

            · go_wp2
              go_round
              case rel => exact ⟨2, by omega, by simp⟩
              case measure => simp [intOf]

        · go_wp2
          go_end0
          exact ⟨rfl, rfl⟩
  · rcases Int.lt_or_le px 0 with d | d
    · have c1 : px < 0 := d
      have e1 : -px = (M : Int) := by omega
      have t1 : decide (px < 0) = true := decide_eq_true c1
      clear a1 a2 d
      go_enter Try.func36, Try.ntmps36
      go_wp2_with fail
      refine (hpx _).mono ?_; rintro r w1 ⟨rfl, rfl⟩
      go_wp2_with fail
      refine (hpy _).mono ?_; rintro r w1 ⟨rfl, rfl⟩
      go_wp2
      go_loop [11, 12, 13, 14, 15] (fun a _ _ _ _ => ∃ (i : Nat), i ≤ 2 ∧ a = .int .i64 (i : Int)) (fun a _ _ _ _ => (2 - intOf a).toNat)
      case atStart => exact ⟨0, by omega, rfl⟩
      case round =>
        obtain ⟨i, hi, rfl⟩ := hrel
        rcases (show i = 0 ∨ i = 1 ∨ i = 2 by omega) with rfl | rfl | rfl
        · rw [show ((0 : Nat) : Int) = 0 from rfl]
          go_wp2
          go_loop [13, 14, 15] (fun a _ _ => ∃ (k : Nat), k ≤ 2 ∧ a = .int .i64 (k : Int)) (fun a _ _ => (2 - intOf a).toNat)
          case atStart => exact ⟨0, by omega, by simp⟩
          case round =>
            obtain ⟨k, hk, rfl⟩ := hrel
            rcases (show k = 0 ∨ k = 1 ∨ k = 2 by omega) with rfl | rfl | rfl
            · go_wp2_with fail
              refine (put_zero _ _ _).mono ?_; rintro r w1 ⟨rfl, rfl⟩
              go_wp2
              go_round
              case rel => exact ⟨1, by omega, by simp⟩
              case measure => simp [intOf]

            · go_wp2_with fail
              refine (put_zero _ _ _).mono ?_; rintro r w1 ⟨rfl, rfl⟩
              go_wp2
              go_round
              case rel => exact ⟨2, by omega, by simp⟩
              case measure => simp [intOf]

            · go_wp2
              go_round
              case rel => exact ⟨1, by omega, by simp⟩
              case measure => simp [intOf]

        · rw [show ((1 : Nat) : Int) = 1 from rfl]
          go_wp2
          go_loop [13, 14, 15] (fun a _ _ => ∃ (k : Nat), k ≤ 2 ∧ a = .int .i64 (k : Int)) (fun a _ _ => (2 - intOf a).toNat)
          case atStart => exact ⟨0, by omega, by simp⟩
          case round =>
            obtain ⟨k, hk, rfl⟩ := hrel
            rcases (show k = 0 ∨ k = 1 ∨ k = 2 by omega) with rfl | rfl | rfl
            · go_wp2_with fail
              refine (put_zero _ _ _).mono ?_; rintro r w1 ⟨rfl, rfl⟩
              go_wp2
              go_round
              case rel => exact ⟨1, by omega, by simp⟩
              case measure => simp [intOf]

            · go_wp2_with fail
              refine (put_zero _ _ _).mono ?_; rintro r w1 ⟨rfl, rfl⟩
              go_wp2
              go_round
              case rel => exact ⟨2, by omega, by simp⟩
              case measure => simp [intOf]

            · go_wp2
              go_round
              case rel => exact ⟨2, by omega, by simp⟩
              case measure => simp [intOf]

        · go_wp2
          go_end0
          exact ⟨rfl, rfl⟩
    · have c1 : ¬ px < 0 := by omega
      have e1 : px = (M : Int) := by omega
      subst e1
      have t1 : decide ((M : Int) < 0) = false := decide_eq_false c1
      clear a1 a2 d
      go_enter Try.func36, Try.ntmps36
      go_wp2_with fail
      refine (hpx _).mono ?_; rintro r w1 ⟨rfl, rfl⟩
      go_wp2_with fail
      refine (hpy _).mono ?_; rintro r w1 ⟨rfl, rfl⟩
      go_wp2
      go_loop [11, 12, 13, 14, 15] (fun a _ _ _ _ => ∃ (i : Nat), i ≤ 2 ∧ a = .int .i64 (i : Int)) (fun a _ _ _ _ => (2 - intOf a).toNat)
      case atStart => exact ⟨0, by omega, rfl⟩
      case round =>
        obtain ⟨i, hi, rfl⟩ := hrel
        rcases (show i = 0 ∨ i = 1 ∨ i = 2 by omega) with rfl | rfl | rfl
        · rw [show ((0 : Nat) : Int) = 0 from rfl]
          go_wp2
          go_loop [13, 14, 15] (fun a _ _ => ∃ (k : Nat), k ≤ 2 ∧ a = .int .i64 (k : Int)) (fun a _ _ => (2 - intOf a).toNat)
          case atStart => exact ⟨0, by omega, by simp⟩
          case round =>
            obtain ⟨k, hk, rfl⟩ := hrel
            rcases (show k = 0 ∨ k = 1 ∨ k = 2 by omega) with rfl | rfl | rfl
            · go_wp2_with fail
              refine (put_zero _ _ _).mono ?_; rintro r w1 ⟨rfl, rfl⟩
              go_wp2
              go_round
              case rel => exact ⟨1, by omega, by simp⟩
              case measure => simp [intOf]

            · go_wp2_with fail
              refine (put_zero _ _ _).mono ?_; rintro r w1 ⟨rfl, rfl⟩
              go_wp2
              go_round
              case rel => exact ⟨2, by omega, by simp⟩
              case measure => simp [intOf]

            · go_wp2
              go_round
              case rel => exact ⟨1, by omega, by simp⟩
              case measure => simp [intOf]

        · rw [show ((1 : Nat) : Int) = 1 from rfl]
          go_wp2
          go_loop [13, 14, 15] (fun a _ _ => ∃ (k : Nat), k ≤ 2 ∧ a = .int .i64 (k : Int)) (fun a _ _ => (2 - intOf a).toNat)
          case atStart => exact ⟨0, by omega, by simp⟩
          case round =>
            obtain ⟨k, hk, rfl⟩ := hrel
            rcases (show k = 0 ∨ k = 1 ∨ k = 2 by omega) with rfl | rfl | rfl
            · go_wp2_with fail
              refine (put_zero _ _ _).mono ?_; rintro r w1 ⟨rfl, rfl⟩
              go_wp2
              go_round
              case rel => exact ⟨1, by omega, by simp⟩
              case measure => simp [intOf]

            · go_wp2_with fail
              refine (put_zero _ _ _).mono ?_; rintro r w1 ⟨rfl, rfl⟩
              go_wp2
              go_round
              case rel => exact ⟨2, by omega, by simp⟩
              case measure => simp [intOf]

            · go_wp2
              go_round
              case rel => exact ⟨2, by omega, by simp⟩
              case measure => simp [intOf]

        · go_wp2
          go_end0
          exact ⟨rfl, rfl⟩
end Go.Proofs.Ytfpneojhhkfhpaa

/- Float operations of a program, in whole numbers of the least unit. Over any program. -/
namespace Go.Proofs.Ytfpneojhhkfhpaa
open Go.RowKit

theorem near_le {n z : Int} (h : Flt.Near n z) : z.natAbs ≤ 2 * n.natAbs := by
  have := h.le 0 Flt.fl_zero
  omega
def mtop : Nat := 1474
theorem big_ok : 1048576 * 2 ^ mtop < 2 ^ Flt.top := by
  have h : 2 ^ 20 * 2 ^ mtop < 2 ^ Flt.top := by
    rw [← Nat.pow_add]
    exact Nat.pow_lt_pow_right (by decide) (by decide)
  have e : (2 : Nat) ^ 20 = 1048576 := rfl
  rw [e] at h
  exact h
/-- n is at most c times 2^400 -/
def UpTo (c : Nat) (n : Int) : Prop := n.natAbs ≤ c * 2 ^ mtop
theorem UpTo.lt {c : Nat} {n : Int} (h : UpTo c n) (hc : c ≤ 1048576) : n.natAbs < 2 ^ Flt.top :=
  Nat.lt_of_le_of_lt (Nat.le_trans h (Nat.mul_le_mul_right _ hc)) big_ok
theorem UpTo.add {c d : Nat} {m n : Int} (h : UpTo c m) (k : UpTo d n) : UpTo (c + d) (m + n) := by
  unfold UpTo at *
  rw [Nat.add_mul]; omega
theorem UpTo.sub {c d : Nat} {m n : Int} (h : UpTo c m) (k : UpTo d n) : UpTo (c + d) (m - n) := by
  unfold UpTo at *
  rw [Nat.add_mul]; omega
theorem UpTo.near {c : Nat} {n z : Int} (h : UpTo c n) (k : Flt.Near n z) : UpTo (2 * c) z := by
  unfold UpTo at *
  have := near_le k
  rw [Nat.mul_assoc]; omega

/-- a sum in a walk -/
theorem fadd {x y : Nat} {a b : Int} {c d : Nat} (hx : Flt.Num x a) (hy : Flt.Num y b) (ha : UpTo c a) (hb : UpTo d b) (hc : c + d ≤ 1048576) :
    ∃ r z, Ieee.double.add x y = some r ∧ Flt.Num r z ∧ Flt.Near (a + b) z ∧ UpTo (2 * (c + d)) z := by
  obtain ⟨r, z, h1, h2, h3⟩ := Flt.add_num hx hy ((ha.add hb).lt hc)
  exact ⟨r, z, h1, h2, h3, (ha.add hb).near h3⟩
theorem fsub {x y : Nat} {a b : Int} {c d : Nat} (hx : Flt.Num x a) (hy : Flt.Num y b) (ha : UpTo c a) (hb : UpTo d b) (hc : c + d ≤ 1048576) :
    ∃ r z, Ieee.double.sub x y = some r ∧ Flt.Num r z ∧ Flt.Near (a - b) z ∧ UpTo (2 * (c + d)) z := by
  obtain ⟨r, z, h1, h2, h3⟩ := Flt.sub_num hx hy ((ha.sub hb).lt hc)
  exact ⟨r, z, h1, h2, h3, (ha.sub hb).near h3⟩
theorem run_fadd {P : Program} (t : TypeId) {x y r : Nat} (h : Ieee.double.add x y = some r) (w : World) : (binOp .add t (.float .f64 x) (.float .f64 y)).run P w = .ok (.float .f64 r) w := run_float_arith w .add t .f64 x y r h
theorem run_fsub {P : Program} (t : TypeId) {x y r : Nat} (h : Ieee.double.sub x y = some r) (w : World) : (binOp .sub t (.float .f64 x) (.float .f64 y)).run P w = .ok (.float .f64 r) w := run_float_arith w .sub t .f64 x y r h
theorem run_fmul {P : Program} (t : TypeId) {x y r : Nat} (h : Ieee.double.mul x y = some r) (w : World) : (binOp .mul t (.float .f64 x) (.float .f64 y)).run P w = .ok (.float .f64 r) w := run_float_arith w .mul t .f64 x y r h
end Go.Proofs.Ytfpneojhhkfhpaa

/- A float's sign turned. No program is named here. -/
namespace Go.Proofs.Ytfpneojhhkfhpaa
open Go.RowKit

theorem xor_flip {b i : Nat} (h : b < 2 ^ i) : b ^^^ 2 ^ i = 2 ^ i + b := by
  apply Nat.eq_of_testBit_eq
  intro j
  rw [Nat.testBit_xor, Nat.testBit_two_pow]
  rcases Nat.lt_trichotomy j i with c | c | c
  · rw [Nat.testBit_two_pow_add_gt c]
    have : ¬ i = j := by omega
    simp [this]
  · subst c
    rw [Nat.testBit_two_pow_add_eq]
    simp
  · have h1 : 2 ^ i < 2 ^ j := Nat.pow_lt_pow_right (by decide) c
    have h2 : 2 ^ i * 2 ≤ 2 ^ j := by rw [← Nat.pow_succ]; exact Nat.pow_le_pow_right (by decide) c
    rw [Nat.testBit_lt_two_pow (show b < 2 ^ j by omega), Nat.testBit_lt_two_pow (show 2 ^ i + b < 2 ^ j by omega)]
    have : ¬ i = j := by omega
    simp [this]
theorem neg_eq (x : Nat) (hx : x < 18446744073709551616) : Op.negFloat .f64 x = if x < 9223372036854775808 then x + 9223372036854775808 else x - 9223372036854775808 := by
  show x ^^^ 2 ^ 63 = _
  have p : (2 : Nat) ^ 63 = 9223372036854775808 := rfl
  by_cases h : x < 9223372036854775808
  · rw [if_pos h, xor_flip (by rw [p]; exact h), p]; omega
  · rw [if_neg h]
    have e : x = (x - 9223372036854775808) ^^^ 2 ^ 63 := by rw [xor_flip (by rw [p]; omega), p]; omega
    have e2 : x ^^^ 2 ^ 63 = ((x - 9223372036854775808) ^^^ 2 ^ 63) ^^^ 2 ^ 63 := by rw [← e]
    rw [e2, Nat.xor_assoc, Nat.xor_self, Nat.xor_zero]
theorem num_neg {x : Nat} {n : Int} (h : Flt.Num x n) : Flt.Num (Op.negFloat .f64 x) (-n) := by
  have hlt : x < 18446744073709551616 := h.lt
  have hfin := h.fin
  obtain ⟨y, hy⟩ : ∃ y, y = Op.negFloat .f64 x := ⟨_, rfl⟩
  rw [← hy]
  rw [neg_eq x hlt] at hy
  have y1 : y < 18446744073709551616 := by split at hy <;> omega
  have y2 : y % 9223372036854775808 = x % 9223372036854775808 := by split at hy <;> omega
  have y3 : (y / 9223372036854775808 % 2 == 1) = !(x / 9223372036854775808 % 2 == 1) := by
    by_cases c : x < 9223372036854775808
    · rw [if_pos c] at hy
      have a1 : y / 9223372036854775808 = 1 := by omega
      have a2 : x / 9223372036854775808 = 0 := by omega
      rw [a1, a2]; rfl
    · rw [if_neg c] at hy
      have a1 : y / 9223372036854775808 = 0 := by omega
      have a2 : x / 9223372036854775808 = 1 := by omega
      rw [a1, a2]; rfl
  have hv := h.val
  unfold Flt.vI at hv
  by_cases c : x % 9223372036854775808 < 4503599627370496
  · rw [Flt.read_small c] at hv
    have hr := Flt.read_small (x := y) (by omega)
    rw [y2, y3] at hr
    exact ⟨y1, _, _, _, hr, by omega, by omega, by omega, by rw [Flt.sval_not]; exact congrArg (fun z => -z) hv.symm⟩
  · rw [Flt.read_mid c hfin] at hv
    have hr := Flt.read_mid (x := y) (by omega) (by omega)
    rw [y2, y3] at hr
    exact ⟨y1, _, _, _, hr, by omega, by omega, by omega, by rw [Flt.sval_not]; exact congrArg (fun z => -z) hv.symm⟩
theorem run_neg {P : Program} (x : Nat) (w : World) : (Op.unary .neg (.float .f64 x)).run P w = .ok (.float .f64 (Op.negFloat .f64 x)) w := rfl
end Go.Proofs.Ytfpneojhhkfhpaa

/- Sums and products the other way round, and with signs turned. No program is named here. -/
namespace Flt
open Ieee

theorem nearest_word (mag : Nat) (place : Int) : ∃ R, ∀ s, double.nearest s mag place = double.word s R := by
  unfold Format.nearest
  by_cases h : mag = 0
  · subst h
    exact ⟨0, fun s => by rw [if_pos rfl]⟩
  · obtain ⟨last, hl⟩ : ∃ last, last = max (place + mag.log2 - double.fractionBits) double.leastPlace := ⟨_, rfl⟩
    refine ⟨min ((last - double.leastPlace).toNat * double.binade + Toward.even.cut false (mag <<< (place - last).toNat) (last - place).toNat) double.infRung, fun s => ?_⟩
    rw [if_neg h, hl]
    rfl
theorem val_word {R : Nat} {z z' : Int} {s : Bool} (h : Num (double.word s R) z) (h' : Num (double.word (!s) R) z') : z' = -z := by
  have key : ∀ {z z' : Int}, Num (double.word false R) z → Num (double.word true R) z' → z' = -z := by
    intro z z' h h'
    have e1 : double.word false R = R := rfl
    have e2 : double.word true R = R + 9223372036854775808 := by
      show double.signWeight + R = _
      rw [weight_eq, Nat.add_comm]
    rw [e1] at h
    rw [e2] at h'
    have hl : R < 9223372036854775808 := by
      have := h'.lt
      have e : (2 : Nat) ^ 64 = 18446744073709551616 := rfl
      omega
    have hf := h.fin
    rw [Nat.mod_eq_of_lt hl] at hf
    rw [← h.val, ← h'.val, v_neg rfl hf]
  cases s
  · exact key h h'
  · have := key h' h
    omega
theorem nearest_neg {mag : Nat} {place : Int} {s : Bool} {z z' : Int} (h : Num (double.nearest s mag place) z) (h' : Num (double.nearest (!s) mag place) z') : z' = -z := by
  obtain ⟨R, hR⟩ := nearest_word mag place
  rw [hR] at h h'
  exact val_word h h'
theorem nearest_zero {place : Int} {s : Bool} {z : Int} (h : Num (double.nearest s 0 place) z) : z = 0 := by
  have e : double.nearest s 0 place = double.word s 0 := by unfold Format.nearest; rw [if_pos rfl]
  rw [e] at h
  have h0 := (read_word s 0 0 (by decide) (Or.inl rfl) (by decide)).1
  have := h.unique h0
  rw [this]
  cases s <;> rfl
theorem add_comm' {x y : Nat} {a b : Int} (hx : Num x a) (hy : Num y b) : double.add x y = double.add y x := by
  obtain ⟨s, m, i, hr, _⟩ := hx.ex
  obtain ⟨t, n, j, hr', _⟩ := hy.ex
  unfold Format.add
  rw [hr, hr']
  show some (double.nearest (if signed s m (i - min i j).toNat + signed t n (j - min i j).toNat = 0 then s && t else decide (signed s m (i - min i j).toNat + signed t n (j - min i j).toNat < 0)) (signed s m (i - min i j).toNat + signed t n (j - min i j).toNat).natAbs (min i j)) =
    some (double.nearest (if signed t n (j - min j i).toNat + signed s m (i - min j i).toNat = 0 then t && s else decide (signed t n (j - min j i).toNat + signed s m (i - min j i).toNat < 0)) (signed t n (j - min j i).toNat + signed s m (i - min j i).toNat).natAbs (min j i))
  rw [Int.min_comm j i, Int.add_comm (signed t n _), Bool.and_comm t s]
theorem mul_comm' {x y : Nat} {a b : Int} (hx : Num x a) (hy : Num y b) : double.mul x y = double.mul y x := by
  obtain ⟨s, m, i, hr, _⟩ := hx.ex
  obtain ⟨t, n, j, hr', _⟩ := hy.ex
  unfold Format.mul
  rw [hr, hr']
  show some (double.nearest (s ^^ t) (m * n) (i + j)) = some (double.nearest (t ^^ s) (n * m) (j + i))
  rw [Bool.xor_comm, Nat.mul_comm, Int.add_comm]
end Flt
namespace Go.Proofs.Ytfpneojhhkfhpaa
open Go.RowKit

theorem read_neg {x : Nat} {s : Bool} {m : Nat} {i : Int} (hx : x < 18446744073709551616) (h : Ieee.double.read x = .number s m i) : Ieee.double.read (Op.negFloat .f64 x) = .number (!s) m i := by
  have hfin : x % 9223372036854775808 < 9218868437227405312 := by
    refine Classical.byContradiction fun hc => ?_
    rcases Flt.read_notfin hc with ⟨t, ht⟩ | ⟨t, p, ht⟩ <;> rw [ht] at h <;> cases h
  obtain ⟨y, hy⟩ : ∃ y, y = Op.negFloat .f64 x := ⟨_, rfl⟩
  rw [← hy]
  rw [neg_eq x hx] at hy
  have y2 : y % 9223372036854775808 = x % 9223372036854775808 := by split at hy <;> omega
  have y3 : (y / 9223372036854775808 % 2 == 1) = !(x / 9223372036854775808 % 2 == 1) := by
    by_cases c : x < 9223372036854775808
    · rw [if_pos c] at hy
      have a1 : y / 9223372036854775808 = 1 := by omega
      have a2 : x / 9223372036854775808 = 0 := by omega
      rw [a1, a2]; rfl
    · rw [if_neg c] at hy
      have a1 : y / 9223372036854775808 = 0 := by omega
      have a2 : x / 9223372036854775808 = 1 := by omega
      rw [a1, a2]; rfl
  by_cases c : x % 9223372036854775808 < 4503599627370496
  · rw [Flt.read_small c] at h
    have hr := Flt.read_small (x := y) (by omega)
    rw [y2, y3] at hr
    cases h
    exact hr
  · rw [Flt.read_mid c hfin] at h
    have hr := Flt.read_mid (x := y) (by omega) (by omega)
    rw [y2, y3] at hr
    cases h
    exact hr
/-- the sum of two numbers whose signs are turned -/
theorem add_neg {x y r r' : Nat} {a b z z' : Int} (hx : Flt.Num x a) (hy : Flt.Num y b) (h : Ieee.double.add x y = some r) (h' : Ieee.double.add (Op.negFloat .f64 x) (Op.negFloat .f64 y) = some r') (hz : Flt.Num r z) (hz' : Flt.Num r' z') : z' = -z := by
  obtain ⟨s, m, i, hr, _⟩ := hx.ex
  obtain ⟨t, n, j, hr', _⟩ := hy.ex
  have k1 := read_neg hx.lt hr
  have k2 := read_neg hy.lt hr'
  unfold Ieee.Format.add at h h'
  rw [hr, hr'] at h
  rw [k1, k2] at h'
  obtain ⟨A, hA⟩ : ∃ A, A = Ieee.signed s m (i - min i j).toNat := ⟨_, rfl⟩
  obtain ⟨B, hB⟩ : ∃ B, B = Ieee.signed t n (j - min i j).toNat := ⟨_, rfl⟩
  have hA' : Ieee.signed (!s) m (i - min i j).toNat = -A := by rw [hA, Flt.signed_eq, Flt.signed_eq]; cases s <;> simp
  have hB' : Ieee.signed (!t) n (j - min i j).toNat = -B := by rw [hB, Flt.signed_eq, Flt.signed_eq]; cases t <;> simp
  have g1 : some (Ieee.double.nearest (if A + B = 0 then s && t else decide (A + B < 0)) (A + B).natAbs (min i j)) = some r := by rw [hA, hB]; exact h
  have g2 : some (Ieee.double.nearest (if -A + -B = 0 then !s && !t else decide (-A + -B < 0)) (-A + -B).natAbs (min i j)) = some r' := by rw [← hA', ← hB']; exact h'
  cases g1
  cases g2
  have eN : (-A + -B).natAbs = (A + B).natAbs := by omega
  rw [eN] at hz'
  by_cases c : A + B = 0
  · have c2 : (A + B).natAbs = 0 := by omega
    rw [c2] at hz hz'
    rw [Flt.nearest_zero hz, Flt.nearest_zero hz']; rfl
  · rw [if_neg c] at hz
    rw [if_neg (by omega : ¬ -A + -B = 0)] at hz'
    have e : decide (-A + -B < 0) = !decide (A + B < 0) := by
      by_cases d : A + B < 0
      · rw [decide_eq_true d, decide_eq_false (by omega)]; rfl
      · rw [decide_eq_false d, decide_eq_true (by omega)]; rfl
    rw [e] at hz'
    exact Flt.nearest_neg hz hz'
/-- the product of two numbers, the first one's sign turned -/
theorem mul_neg {x y r r' : Nat} {a b z z' : Int} (hx : Flt.Num x a) (hy : Flt.Num y b) (h : Ieee.double.mul x y = some r) (h' : Ieee.double.mul (Op.negFloat .f64 x) y = some r') (hz : Flt.Num r z) (hz' : Flt.Num r' z') : z' = -z := by
  obtain ⟨s, m, i, hr, _⟩ := hx.ex
  obtain ⟨t, n, j, hr', _⟩ := hy.ex
  have k1 := read_neg hx.lt hr
  unfold Ieee.Format.mul at h h'
  rw [hr, hr'] at h
  rw [k1, hr'] at h'
  have g1 : some (Ieee.double.nearest (s ^^ t) (m * n) (i + j)) = some r := h
  have g2 : some (Ieee.double.nearest (!s ^^ t) (m * n) (i + j)) = some r' := h'
  cases g1
  cases g2
  have e : (!s ^^ t) = !(s ^^ t) := by cases s <;> cases t <;> rfl
  rw [e] at hz'
  exact Flt.nearest_neg hz hz'
/-- two words of one number are equal floats -/
theorem ord_same {x y : Nat} {a : Int} (hx : Flt.Num x a) (hy : Flt.Num y a) : FloatKind.f64.format.order x y = some Ordering.eq := (Flt.order_num hx hy).trans (by simp [compare, compareOfLessAndEq])
end Go.Proofs.Ytfpneojhhkfhpaa

/- Numbers that are 0 or not too small or great: their places, products with 1 and -1, products over the last places. -/
namespace Flt
open Ieee

def GoodN (n : Int) : Prop := n = 0 ∨ (2 ^ 600 ≤ n.natAbs ∧ n.natAbs < 2 ^ 1500)
theorem two_uE1 : (2 : Int) ^ uE = 2 ^ 52 * 2 ^ 1022 := by
  show (2 : Int) ^ (52 + 1022) = _
  exact Int.pow_add _ _ _
theorem num_one : Num 4607182418800017408 (2 ^ uE) := by
  have h := num_of (x := 4607182418800017408) (by decide) (by decide)
  rw [v_mid (by decide) (by decide)] at h
  have e1 : ((4503599627370496 + 4607182418800017408 % 4503599627370496 : Nat) : Int) = 2 ^ 52 := by decide
  have e2 : 4607182418800017408 / 4503599627370496 - 1 = 1022 := by decide
  rw [e1, e2, ← two_uE1] at h
  exact h
theorem one_mul {x : Nat} {n : Int} (hx : Num x n) (h : n = 0 ∨ 2 ^ 104 ≤ n.natAbs) (hb : n.natAbs ≤ 2 ^ 2000) : ∃ r, double.mul 4607182418800017408 x = some r ∧ Num r n := by
  have hz : ((2 : Int) ^ uE).natAbs = 2 ^ (52 + 1022) := by rw [natAbs_two, show uE = 52 + 1022 from rfl]
  have hp : (2 : Int) ^ uE * n = n * 2 ^ uE := Int.mul_comm _ _
  obtain ⟨r, z, h1, h2, h3⟩ := mul_num num_one hx (p := n) hp (abs_lt_top hb (by decide)) (by
    rcases h with h | h
    · exact Or.inr (Or.inl h)
    · exact Or.inr (Or.inr ⟨1022, 52, by decide, Nat.le_of_eq hz.symm, h⟩))
  rw [h3.self hx.fl] at h2
  exact ⟨r, h1, h2⟩
end Flt
namespace Go.Proofs.Ytfpneojhhkfhpaa
open Go.RowKit

theorem neg_one_word : Op.negFloat .f64 4607182418800017408 = 13830554455654793216 := by decide +kernel
theorem mone_mul {x : Nat} {n : Int} (hx : Flt.Num x n) (h : n = 0 ∨ 2 ^ 104 ≤ n.natAbs) (hb : n.natAbs ≤ 2 ^ 2000) : ∃ r, Ieee.double.mul 13830554455654793216 x = some r ∧ Flt.Num r (-n) := by
  obtain ⟨r, h1, h2⟩ := Flt.one_mul hx h hb
  have hn := num_neg Flt.num_one
  rw [neg_one_word] at hn
  have hz : (-((2 : Int) ^ Flt.uE)).natAbs = 2 ^ (52 + 1022) := by rw [Int.natAbs_neg, Flt.natAbs_two, show Flt.uE = 52 + 1022 from rfl]
  have hp : -((2 : Int) ^ Flt.uE) * n = -n * 2 ^ Flt.uE := by rw [Int.neg_mul, Int.neg_mul, Int.mul_comm]
  obtain ⟨r', z, k1, k2, k3⟩ := Flt.mul_num hn hx (p := -n) hp (Flt.abs_lt_top (by rw [Int.natAbs_neg]; exact hb) (by decide)) (by
    rcases h with h | h
    · exact Or.inr (Or.inl h)
    · exact Or.inr (Or.inr ⟨1022, 52, by decide, Nat.le_of_eq hz.symm, h⟩))
  rw [k3.self (Flt.fl_neg hx.fl)] at k2
  exact ⟨r', k1, k2⟩
/-- the places of a good number -/
theorem good_pE {x : Nat} {n : Int} (hx : Flt.Num x n) (hn : Flt.GoodN n) : (n = 0 ∧ pM x = 0) ∨ (-526 ≤ pE x ∧ pE x ≤ 426) := by
  have hp := num_parts hx
  have h1 := pE_ge x
  have hA := pA_lt x
  obtain ⟨t, ht⟩ : ∃ t, t = (pE x + 1074).toNat := ⟨_, rfl⟩
  rw [← ht] at hp
  have hab : n.natAbs = pA x * 2 ^ t := by rw [hp, Int.natAbs_mul, Flt.natAbs_two, pM_abs]
  have hpos : 0 < 2 ^ t := Nat.pow_pos (by decide)
  rcases hn with rfl | ⟨h2, h3⟩
  · left
    have h0 : pA x = 0 := by
      rcases Nat.mul_eq_zero.1 hab.symm with h | h
      · exact h
      · omega
    exact ⟨rfl, by have := pM_abs x; omega⟩
  · right
    rw [hab] at h2 h3
    have u1 : pA x * 2 ^ t < 2 ^ 53 * 2 ^ t := Nat.mul_lt_mul_of_pos_right (Nat.lt_of_lt_of_le hA (by decide)) hpos
    rw [← Nat.pow_add] at u1
    have u2 := Flt.two_lt (Nat.lt_of_le_of_lt h2 u1)
    have h52 : 4503599627370496 ≤ pA x := by
      by_cases c : 0 < x % 9223372036854775808 / 4503599627370496
      · have := (pE_pos c).2; omega
      · have := (pE_zero c).1; omega
    have u3 : 2 ^ 52 * 2 ^ t ≤ pA x * 2 ^ t := Nat.mul_le_mul_right _ h52
    rw [← Nat.pow_add] at u3
    have u4 := Flt.two_lt (Nat.lt_of_le_of_lt u3 h3)
    omega
theorem two_uE2' : (2 : Int) ^ Flt.uE = 2 ^ 126 * 2 ^ 948 := by
  show (2 : Int) ^ (126 + 948) = _
  exact Int.pow_add _ _ _
/-- the product of two good numbers is a whole number of the least units -/
theorem good_prod {x y : Nat} {a b : Int} (hx : Flt.Num x a) (hy : Flt.Num y b) (ha : Flt.GoodN a) (hb : Flt.GoodN b) : ∃ T, a * b = T * 2 ^ Flt.uE := by
  rcases good_pE hx ha with ⟨h1, _⟩ | ⟨h1, h2⟩
  · exact ⟨0, by rw [h1, Int.zero_mul, Int.zero_mul]⟩
  · rcases good_pE hy hb with ⟨k1, _⟩ | ⟨k1, k2⟩
    · exact ⟨0, by rw [k1, Int.mul_zero, Int.zero_mul]⟩
    · have hp := num_parts hx
      have hq := num_parts hy
      obtain ⟨s, hs⟩ : ∃ s, s = (pE x + 1074).toNat := ⟨_, rfl⟩
      obtain ⟨t, ht⟩ : ∃ t, t = (pE y + 1074).toNat := ⟨_, rfl⟩
      rw [← hs] at hp
      rw [← ht] at hq
      have hu : Flt.uE = 1074 := rfl
      obtain ⟨k, hk⟩ : ∃ k, s + t = k + Flt.uE := ⟨s + t - Flt.uE, by omega⟩
      exact ⟨pM x * pM y * 2 ^ k, by rw [hp, hq, Int.mul_assoc (pM x * pM y), ← Int.pow_add, ← hk, Int.pow_add]; ac_rfl⟩
theorem times_good (g : Nat) (f : Nat → Int) (x y : Nat) (a b T : Int) (w : World) (hx : Flt.Num x a) (hy : Flt.Num y b) (ha : Flt.GoodN a) (hb : Flt.GoodN b) (hT : a * b = T * 2 ^ Flt.uE) (hf : LongAt w g f) (hbd : ∀ i, (f i).natAbs ≤ 1125899906842624) :
    Calls Try.prog 36 #[.pointer (some ⟨g, 0, none⟩), .float .f64 x, .float .f64 y] w fun r w' => r = .returned (.tuple #[]) ∧ ∃ f', LongAt w' g f' ∧ lval f' = lval f + T * 2 ^ 126 ∧ (∀ j, (f' j - f j).natAbs ≤ 12884901888) ∧ Touch g w w' := by
  have zero : a * b = 0 → pM x = 0 ∨ pM y = 0 → Calls Try.prog 36 #[.pointer (some ⟨g, 0, none⟩), .float .f64 x, .float .f64 y] w fun r w' => r = .returned (.tuple #[]) ∧ ∃ f', LongAt w' g f' ∧ lval f' = lval f + T * 2 ^ 126 ∧ (∀ j, (f' j - f j).natAbs ≤ 12884901888) ∧ Touch g w w' := by
    intro h0 hz
    have hT0 : T = 0 := by
      rw [h0] at hT
      rcases Int.mul_eq_zero.1 hT.symm with h | h
      · exact h
      · exact absurd h (Int.ne_of_gt (Flt.two_pos _))
    refine (times_zero _ x y w hx.fin hy.fin hz).mono ?_
    rintro r w' ⟨rfl, rfl⟩
    exact ⟨rfl, f, hf, by rw [hT0]; simp, fun j => by simp, Touch.refl _ _⟩
  rcases good_pE hx ha with ⟨h1, h2⟩ | ⟨h1, h2⟩
  · exact zero (by rw [h1, Int.zero_mul]) (Or.inl h2)
  · rcases good_pE hy hb with ⟨k1, k2⟩ | ⟨k1, k2⟩
    · exact zero (by rw [k1, Int.mul_zero]) (Or.inr k2)
    · refine (times_any g f x y w hx.fin hy.fin hf (by omega) (by omega) hbd).mono ?_
      rintro r w' ⟨rfl, f', l1, v1, d1, e1⟩
      refine ⟨rfl, f', l1, ?_, d1, e1⟩
      rw [v1]
      refine congrArg (lval f + ·) ?_
      have hp := num_parts hx
      have hq := num_parts hy
      obtain ⟨s, hs⟩ : ∃ s, s = (pE x + 1074).toNat := ⟨_, rfl⟩
      obtain ⟨t, ht⟩ : ∃ t, t = (pE y + 1074).toNat := ⟨_, rfl⟩
      obtain ⟨E, hE⟩ : ∃ E, E = (pE x + pE y + 1200).toNat := ⟨_, rfl⟩
      rw [← hs] at hp
      rw [← ht] at hq
      rw [← hE]
      have hst : s + t = E + 948 := by omega
      have h3 : pM x * pM y * 2 ^ E * 2 ^ 948 = T * 2 ^ 126 * 2 ^ 948 := by
        have e1 : pM x * pM y * 2 ^ E * 2 ^ 948 = a * b := by
          rw [hp, hq, Int.mul_assoc (pM x * pM y), ← Int.pow_add, ← hst, Int.pow_add]; ac_rfl
        rw [e1, hT, two_uE2', Int.mul_assoc T]
      exact Int.eq_of_mul_eq_mul_right (Int.ne_of_gt (Flt.two_pos 948)) h3
theorem LongAt.bel {w w' : World} {g : Nat} {f : Nat → Int} (h : LongAt w g f) (hB : Bel w w') (hg : g < w.heap.size) : LongAt w' g f := by
  intro i hi
  obtain ⟨h1, h2⟩ := h i hi
  exact ⟨(hB.cell hg).trans h1, (hB.frozen hg).trans h2⟩
end Go.Proofs.Ytfpneojhhkfhpaa

/- Layer 4's statements: a float made of any bits, between two powers of two. -/
namespace Go.Proofs.Ytfpneojhhkfhpaa
open Go.RowKit

theorem or_add4 (H L k : Nat) (hH : H * 2 ^ k < 18446744073709551616) (hL : L < 2 ^ k) (hk : k ≤ 63) : bits .or .u64 ((H * 2 ^ k : Nat) : Int) (L : Int) = ((H * 2 ^ k + L : Nat) : Int) := by
  have hp : (2 : Nat) ^ k ≤ 2 ^ 63 := Nat.pow_le_pow_right (by omega) hk
  rw [bits_or_u64_nat _ _ hH (by omega)]
  rw [Nat.mul_comm, Nat.two_pow_add_eq_or_of_lt hL]
theorem part_num {S e F : Nat} (hS : S ≤ 1) (he : 1 ≤ e) (he2 : e ≤ 2046) (hF : F < 4503599627370496) : Flt.Num (S * 9223372036854775808 + e * 4503599627370496 + F) (Flt.vI (S * 9223372036854775808 + e * 4503599627370496 + F)) ∧ 2 ^ (51 + e) ≤ (Flt.vI (S * 9223372036854775808 + e * 4503599627370496 + F)).natAbs ∧ (Flt.vI (S * 9223372036854775808 + e * 4503599627370496 + F)).natAbs < 2 ^ (52 + e) := by
  have h64 : (2 : Nat) ^ 64 = 18446744073709551616 := rfl
  obtain ⟨x, hx⟩ : ∃ x, x = S * 9223372036854775808 + e * 4503599627370496 + F := ⟨_, rfl⟩
  rw [← hx]
  have hn := Flt.num_of (x := x) (by omega) (by omega)
  have hp := num_parts hn
  obtain ⟨e1, e2⟩ := pE_pos (x := x) (by omega)
  have e3 : (pE x + 1074).toNat = e - 1 := by omega
  have e4 : (Flt.vI x).natAbs = pA x * 2 ^ (e - 1) := by rw [hp, e3, Int.natAbs_mul, Flt.natAbs_two, pM_abs]
  have e5 : pA x = 4503599627370496 + F := by omega
  rw [e4, e5]
  have q52 : (2 : Nat) ^ 52 = 4503599627370496 := rfl
  have q53 : (2 : Nat) ^ 53 = 9007199254740992 := rfl
  have l1 : 2 ^ 52 ≤ 4503599627370496 + F := by omega
  have l2 : 4503599627370496 + F < 2 ^ 53 := by omega
  refine ⟨hn, ?_, ?_⟩
  · rw [show 51 + e = 52 + (e - 1) from by omega, Nat.pow_add]; exact Nat.mul_le_mul_right _ l1
  · rw [show 52 + e = 53 + (e - 1) from by omega, Nat.pow_add]; exact Nat.mul_lt_mul_of_pos_right l2 (Nat.pow_pos (by decide))
theorem part_bits {u S e F lo W : Nat} (hu : u < 18446744073709551616) (hW : 1 ≤ W) (hloW : lo + W ≤ 2047) (hS : S = u / 9223372036854775808) (he : e = u * 2 % 18446744073709551616 / 9007199254740992 % W + lo) (hF : F = u % 4503599627370496) :
    bits .or .u64 (bits .or .u64 ((u : Int) / 9223372036854775808 * 9223372036854775808) (IntKind.u64.wrap (IntKind.u64.wrap ((IntKind.u64.wrap ((u : Int) * 2) / 9007199254740992).tmod (W : Int) + (lo : Int)) * 4503599627370496))) (IntKind.u64.wrap ((u : Int) * 4096) / 4096)
      = ((S * 9223372036854775808 + e * 4503599627370496 + F : Nat) : Int) := by
  have g1 : (u : Int) / 9223372036854775808 * 9223372036854775808 = ((S * 2 ^ 63 : Nat) : Int) := by
    have : (2 : Nat) ^ 63 = 9223372036854775808 := rfl
    rw [this]; omega
  have hmod : u * 2 % 18446744073709551616 / 9007199254740992 % W < W := Nat.mod_lt _ hW
  have g2 : IntKind.u64.wrap (IntKind.u64.wrap ((IntKind.u64.wrap ((u : Int) * 2) / 9007199254740992).tmod (W : Int) + (lo : Int)) * 4503599627370496) = ((e * 4503599627370496 : Nat) : Int) := by
    have h1 : IntKind.u64.wrap ((u : Int) * 2) / 9007199254740992 = ((u * 2 % 18446744073709551616 / 9007199254740992 : Nat) : Int) := by rw [IntKind.wrap_u64]; omega
    obtain ⟨Z, hZ⟩ : ∃ Z, Z = u * 2 % 18446744073709551616 / 9007199254740992 := ⟨_, rfl⟩
    rw [← hZ] at h1 he hmod
    have h2 : ((Z : Int)).tmod (W : Int) = ((Z % W : Nat) : Int) := by rw [Int.tmod_eq_emod_of_nonneg (by omega)]; omega
    obtain ⟨Y, hY⟩ : ∃ Y, Y = Z % W := ⟨_, rfl⟩
    rw [← hY] at h2 he hmod
    rw [h1, h2, IntKind.wrap_u64, IntKind.wrap_u64]
    omega
  have g3 : IntKind.u64.wrap ((u : Int) * 4096) / 4096 = (F : Int) := by rw [IntKind.wrap_u64]; omega
  have p63 : (2 : Nat) ^ 63 = 9223372036854775808 := rfl
  have p52 : (2 : Nat) ^ 52 = 4503599627370496 := rfl
  obtain ⟨Y, hY⟩ : ∃ Y, Y = u * 2 % 18446744073709551616 / 9007199254740992 % W := ⟨_, rfl⟩
  rw [← hY] at he hmod
  rw [g1, g2, g3, or_add4 S (e * 4503599627370496) 63 (by rw [p63]; omega) (by rw [p63]; omega) (by decide)]
  have g4 : S * 2 ^ 63 + e * 4503599627370496 = (S * 2048 + e) * 2 ^ 52 := by rw [p63, p52]; omega
  rw [g4, or_add4 (S * 2048 + e) F 52 (by rw [p52]; omega) (by rw [p52]; omega) (by decide), ← g4, p63]
/-- 0, or from 2^lo on, below 2^hi: in least units; a float that is normal -/
structure PartN (lo hi x : Nat) (n : Int) : Prop where
  num : Flt.Num x n
  or : (n = 0 ∧ x = 0) ∨ (2 ^ lo ≤ n.natAbs ∧ n.natAbs < 2 ^ hi ∧ 4503599627370496 ≤ x % 9223372036854775808)
theorem part_any (b low W : Int) (w : World) (hW : 1 ≤ W) (hlo : -1022 ≤ low) (hhi : low + W ≤ 1000) (hW2 : W ≤ 2000) :
    Calls Try.prog 8 #[.int .i64 b, .int .i64 low, .int .i64 W] w fun r w' => ∃ x n, r = .returned (.float .f64 x) ∧ PartN (1074 + low).toNat (1074 + low + W).toNat x n ∧ w = w' := by
  obtain ⟨u, hu⟩ : ∃ u : Nat, u = (IntKind.u64.wrap b).toNat := ⟨_, rfl⟩
  have eU : IntKind.u64.wrap b = (u : Int) := by rw [hu, IntKind.wrap_u64]; omega
  have u64 : u < 18446744073709551616 := by rw [hu, IntKind.wrap_u64]; omega
  obtain ⟨T, hT⟩ : ∃ T : Int, T = IntKind.u64.wrap ((u : Int) * 2) := ⟨_, rfl⟩
  by_cases hz : T = 0
  · have t1 : (T == 0) = true := by rw [beq_iff_eq]; exact hz
    rw [hT] at t1
    have z : Flt.Num 0 0 := by
      have h := Flt.num_of (x := 0) (by decide) (by decide)
      rwa [Flt.v_small (by decide)] at h
    have R := Lib.hid (show PartN (1074 + low).toNat (1074 + low + W).toNat 0 0 from ⟨z, Or.inl ⟨rfl, rfl⟩⟩)
    clear hu hT hz z
    go_enter Try.func8, Try.ntmps8
    go_wp2
    go_ret
    exact ⟨0, 0, rfl, R.out, rfl⟩
  · have t1 : (T == 0) = false := by rw [beq_eq_false_iff_ne]; exact hz
    rw [hT] at t1
    obtain ⟨Wn, hWn⟩ : ∃ Wn : Nat, W = (Wn : Int) := ⟨W.toNat, by omega⟩
    obtain ⟨lo, hlon⟩ : ∃ lo : Nat, 1023 + low = (lo : Int) := ⟨(1023 + low).toNat, by omega⟩
    obtain ⟨S, hS⟩ : ∃ S : Nat, S = u / 9223372036854775808 := ⟨_, rfl⟩
    obtain ⟨Y, hY⟩ : ∃ Y, Y = u * 2 % 18446744073709551616 / 9007199254740992 % Wn := ⟨_, rfl⟩
    have hYW : Y < Wn := by rw [hY]; exact Nat.mod_lt _ (by omega)
    obtain ⟨e, he⟩ : ∃ e : Nat, e = u * 2 % 18446744073709551616 / 9007199254740992 % Wn + lo := ⟨_, rfl⟩
    obtain ⟨F, hF⟩ : ∃ F : Nat, F = u % 4503599627370496 := ⟨_, rfl⟩
    have hbig := part_bits (lo := lo) (W := Wn) u64 (by omega) (by omega) hS he hF
    rw [← hY] at he
    obtain ⟨k1, k2, k3⟩ := part_num (S := S) (e := e) (F := F) (by omega) (by omega) (by omega) (by omega)
    obtain ⟨X, hX⟩ : ∃ X, X = S * 9223372036854775808 + e * 4503599627370496 + F := ⟨_, rfl⟩
    rw [← hX] at k1 k2 k3 hbig
    have R := Lib.hid (show PartN (1074 + low).toNat (1074 + low + W).toNat X (Flt.vI X) from ⟨k1, Or.inr ⟨Nat.le_trans (Flt.two_le (by omega)) k2, Nat.lt_of_lt_of_le k3 (Flt.two_le (by omega)), by omega⟩⟩)
    have hr := fun w => run_frombits (X : Int) w
    subst hWn
    have eL : 1023 + low = (lo : Int) := hlon
    have l0 : (lo : Int) ≤ 2047 := by omega
    have l1 : (0 : Int) ≤ (lo : Int) := by omega
    clear hu hT hz hS hY he hF hX k1 k2 k3 hYW hlon
    go_enter Try.func8, Try.ntmps8
    go_wp2
    go_ret
    exact ⟨X, _, by simp, R.out, rfl⟩
end Go.Proofs.Ytfpneojhhkfhpaa

/- Layer 4's statements: put, times, fine; the reference's Neat. -/
namespace Go.Proofs.Ytfpneojhhkfhpaa
open Go.RowKit

theorem GoodN.lo {n : Int} (h : Flt.GoodN n) : n = 0 ∨ 2 ^ 104 ≤ n.natAbs := h.imp id fun h => Nat.le_trans (Flt.two_le (by decide)) h.1
theorem GoodN.hi {n : Int} (h : Flt.GoodN n) : n.natAbs ≤ 2 ^ 2000 := by
  rcases h with rfl | ⟨_, h⟩
  · exact Nat.zero_le _
  · have h2 := Flt.two_le (a := 1500) (b := 2000) (by decide)
    exact Nat.le_of_lt (Nat.lt_of_lt_of_le h h2)
theorem GoodN.neg {n : Int} (h : Flt.GoodN n) : Flt.GoodN (-n) := by
  rcases h with rfl | h
  · exact Or.inl rfl
  · exact Or.inr (by rw [Int.natAbs_neg]; exact h)
/-- of a second part this is enough -/
def GoodW (n : Int) : Prop := n = 0 ∨ (2 ^ 104 ≤ n.natAbs ∧ n.natAbs < 2 ^ 1500)
theorem GoodN.w {n : Int} (h : Flt.GoodN n) : GoodW n := h.imp id fun h => ⟨Nat.le_trans (Flt.two_le (by decide)) h.1, h.2⟩
theorem GoodW.lo {n : Int} (h : GoodW n) : n = 0 ∨ 2 ^ 104 ≤ n.natAbs := h.imp id fun h => h.1
theorem GoodW.hi {n : Int} (h : GoodW n) : n.natAbs ≤ 2 ^ 2000 := by
  rcases h with rfl | ⟨_, h⟩
  · exact Nat.zero_le _
  · have h2 := Flt.two_le (a := 1500) (b := 2000) (by decide)
    exact Nat.le_of_lt (Nat.lt_of_lt_of_le h h2)
/-- a sign's word: what is multiplied by it -/
def Sgn (s : Nat) (σ : Int) : Prop := (σ = 1 ∨ σ = -1) ∧ ∀ {x : Nat} {n : Int}, Flt.Num x n → GoodW n → ∃ r, Ieee.double.mul s x = some r ∧ Flt.Num r (σ * n)
theorem sgn_pos : Sgn 4607182418800017408 1 := ⟨Or.inl rfl, fun hx hn => by
  obtain ⟨r, h1, h2⟩ := Flt.one_mul hx hn.lo hn.hi
  exact ⟨r, h1, by rw [Int.one_mul]; exact h2⟩⟩
theorem sgn_neg : Sgn 13830554455654793216 (-1) := ⟨Or.inr rfl, fun hx hn => by
  obtain ⟨r, h1, h2⟩ := mone_mul hx hn.lo hn.hi
  exact ⟨r, h1, by rw [Int.neg_mul, Int.one_mul]; exact h2⟩⟩
theorem Sgn.good {s : Nat} {σ n : Int} (h : Sgn s σ) (hn : Flt.GoodN n) : Flt.GoodN (σ * n) := by
  rcases h.1 with rfl | rfl
  · rw [Int.one_mul]; exact hn
  · rw [Int.neg_mul, Int.one_mul]; exact GoodN.neg hn

set_option maxHeartbeats 1000000 in
theorem put_sgn (s : Nat) (σ : Int) (hs : Sgn s σ) (g : Nat) (f : Nat → Int) (x y : Nat) (a b : Int) (w : World) (hx : Flt.Num x a) (hy : Flt.Num y b) (ha : GoodW a) (hb : GoodW b) (hf : LongAt w g f) (hg : g < w.heap.size) (hbd : ∀ i, (f i).natAbs ≤ 1125899906842624) :
    Calls Try.prog 13 #[.pointer (some ⟨g, 0, none⟩), .agg #[.float .f64 x, .float .f64 y], .float .f64 s] w fun r w' => r = .returned (.tuple #[]) ∧ ∃ f', LongAt w' g f' ∧ lval f' = lval f + σ * (a + b) * 2 ^ 126 ∧ (∀ j, (f' j - f j).natAbs ≤ 6442450944) ∧ Touch g w w' := by
  obtain ⟨p, p1, p2⟩ := hs.2 hx ha
  obtain ⟨q, q1, q2⟩ := hs.2 hy hb
  have o1 := fun w => run_fmul (P := Try.prog) 22 p1 w
  have o2 := fun w => run_fmul (P := Try.prog) 22 q1 w
  have hW1 := (Touch.refl g w).alloc hg (.cells #[.float .f64 x, .float .f64 y] 25)
  have hL1 := hf.bel ((Bel.refl w).alloc (.cells #[.float .f64 x, .float .f64 y] 25)) hg
  have hc1 : (w.alloc (.cells #[.float .f64 x, .float .f64 y] 25)).cell? ⟨w.heap.size, 1, none⟩ = some (.float .f64 y) := by rw [World.cell?_alloc_new]; rfl
  have hsz : (w.alloc (.cells #[.float .f64 x, .float .f64 y] 25)).heap.size = w.heap.size + 1 := by simp
  have hgH := Lib.hid hg
  clear p1 q1 hx hy ha hb hs
  go_enter Try.func13, Try.ntmps13
  go_wp2_with fail
  refine (add_any g f p (σ * a) _ p2 hL1 (fun i => Nat.le_trans (hbd i) (by decide))).mono ?_; rintro r w2 ⟨rfl, f1, l1, v1, d1, e1⟩
  have hc2 := (e1.cell (p := ⟨w.heap.size, 1, none⟩) (by rw [hsz]; simp) (by have := hgH.out; simp; omega)).trans hc1
  have q1 : ∀ j, (f1 j).natAbs ≤ 1152921504606846976 := fun j => by have := d1 j; have := hbd j; omega
  have vH := Lib.hid v1
  clear hL1 hc1 v1
  go_wp2_with fail
  refine (add_any g f1 q (σ * b) _ q2 l1 q1).mono ?_; rintro r w3 ⟨rfl, f2, l2, v2, d2, e2⟩
  have v2H := Lib.hid v2
  clear v2 hc2
  go_wp2
  go_end0
  refine ⟨rfl, f2, l2, ?_, fun j => by have := d1 j; have := d2 j; omega, (hW1.trans e1).trans e2⟩
  rw [v2H.out, vH.out, Int.mul_add, Int.add_mul, Int.add_assoc]

theorem neat_any (x y : Nat) (a b : Int) (w : World) (hx : Flt.Num x a) (hy : Flt.Num y b) (hb : (a + b).natAbs < 2 ^ Flt.top) (hn : Flt.rn (a + b) = a) :
    Calls Try.prog 28 #[.float .f64 x, .float .f64 y] w fun r w' => r = .returned (.bool true) ∧ w = w' := by
  obtain ⟨r, h1, h2⟩ := Flt.add_rn hx hy hb
  rw [hn] at h2
  have o1 := fun w => run_fadd (P := Try.prog) 22 h1 w
  have o2 := ord_same h2 hx
  clear h1 h2 hx hy hb hn
  go_enter Try.func28, Try.ntmps28
  go_wp2
  go_ret
  exact ⟨ret_bool (by simp), rfl⟩
theorem fine_any (x y : Nat) (a b : Int) (w : World) (hx : Flt.Num x a) (hy : Flt.Num y b) (hb : (a + b).natAbs < 2 ^ Flt.top) (hn : Flt.rn (a + b) = a) :
    Calls Try.prog 11 #[.agg #[.float .f64 x, .float .f64 y]] w fun r w' => r = .returned (.bool true) ∧ Bel w w' := by
  have h1 := fun w => finite_any x w
  have h2 := fun w => finite_any y w
  rw [decide_eq_true hx.fin] at h1
  rw [decide_eq_true hy.fin] at h2
  have h3 := fun w => neat_any x y a b w hx hy hb hn
  have hB := (Bel.refl w).alloc (.cells #[.float .f64 x, .float .f64 y] 25)
  clear hx hy hb hn
  go_enter Try.func11, Try.ntmps11
  go_wp2_with fail
  refine (h1 _).mono ?_; rintro r w2 ⟨rfl, rfl⟩
  go_wp2_with fail
  refine (h2 _).mono ?_; rintro r w2 ⟨rfl, rfl⟩
  go_wp2_with fail
  refine (h3 _).mono ?_; rintro r w2 ⟨rfl, rfl⟩
  go_wp2
  go_ret
  exact ⟨rfl, hB⟩
end Go.Proofs.Ytfpneojhhkfhpaa

/- A block of two floats that a call has laid: read and written. No program is named here. -/
namespace Go.Proofs.Ytfpneojhhkfhpaa
open Go.RowKit

/-- a float stored -/
theorem run_store_float (P : Program) (a : Addr) (x : Nat) (m : Mode) (w : World) : (store a (.float .f64 x) m).run P w = stored P w a (.float .f64 x) m := run_store P w a _ m rfl
structure Two (w : World) (R : Nat) (a b : Nat) : Prop where
  c0 : w.cell? ⟨R, 0, none⟩ = some (.float .f64 a)
  c1 : w.cell? ⟨R, 1, none⟩ = some (.float .f64 b)
  z0 : w.frozen? ⟨R, 0, none⟩ = false
  z1 : w.frozen? ⟨R, 1, none⟩ = false
theorem Two.new (w : World) (a b : Nat) (t : TypeId) : Two (w.alloc (.cells #[.float .f64 a, .float .f64 b] t)) w.heap.size a b :=
  ⟨by rw [World.cell?_alloc_new]; rfl, by rw [World.cell?_alloc_new]; rfl, frozen_of_row _ _ 0 _ t (heap_alloc_new w _), frozen_of_row _ _ 1 _ t (heap_alloc_new w _)⟩
theorem Two.bel {w w' : World} {R a b : Nat} (h : Two w R a b) (hB : Bel w w') (hR : R < w.heap.size) : Two w' R a b :=
  ⟨(hB.cell hR).trans h.c0, (hB.cell hR).trans h.c1, (hB.frozen hR).trans h.z0, (hB.frozen hR).trans h.z1⟩
/-- the first cell written: what the second reads -/
theorem Two.mid {w : World} {R a b : Nat} (h : Two w R a b) (a' : Nat) : (w.setCell ⟨R, 0, none⟩ (.float .f64 a')).cell? ⟨R, 1, none⟩ = some (.float .f64 b) ∧ (w.setCell ⟨R, 0, none⟩ (.float .f64 a')).frozen? ⟨R, 1, none⟩ = false := by
  refine ⟨?_, by rw [World.frozen?_setCell]; exact h.z1⟩
  rw [World.cell?_setCell_other _ _ _ _ (by intro e; cases e)]
  exact h.c1
theorem Two.set {w : World} {R a b : Nat} (h : Two w R a b) (a' b' : Nat) : Two ((w.setCell ⟨R, 0, none⟩ (.float .f64 a')).setCell ⟨R, 1, none⟩ (.float .f64 b')) R a' b' := by
  obtain ⟨m1, m2⟩ := h.mid a'
  refine ⟨?_, ?_, by rw [World.frozen?_setCell, World.frozen?_setCell]; exact h.z0, by rw [World.frozen?_setCell]; exact m2⟩
  · rw [World.cell?_setCell_other _ _ _ _ (by intro e; cases e)]
    exact World.cell?_setCell_same' w _ _ (by rw [h.c0]; rfl)
  · exact World.cell?_setCell_same' _ _ _ (by rw [m1]; rfl)
end Go.Proofs.Ytfpneojhhkfhpaa
