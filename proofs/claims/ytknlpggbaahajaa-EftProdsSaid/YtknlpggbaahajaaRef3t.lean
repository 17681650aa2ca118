/- The reference's Times (layer 3). -/
import Derived.Test.YtknlpggbaahajaaRef3c
import Derived.Test.YtknlpggbaahajaaTimesP
namespace Go.Proofs.Ytknlpggbaahajaa
open Go.RowKit

set_option maxHeartbeats 8000000 in
theorem times_any (g : Nat) (f : Nat → Int) (x y : Nat) (w : World) (hx : x % 9223372036854775808 < 9218868437227405312) (hy : y % 9223372036854775808 < 9218868437227405312) (hf : LongAt w g f) (hE0 : -1150 ≤ pE x + pE y) (hE1 : pE x + pE y ≤ 1800) (hb : ∀ i, (f i).natAbs ≤ 1125899906842624) :
    Calls Try.prog 18 #[.pointer (some ⟨g, 0, none⟩), .float .f64 x, .float .f64 y] w fun r w' => r = .returned (.tuple #[]) ∧ ∃ f', LongAt w' g f' ∧ lval f' = lval f + pM x * pM y * 2 ^ (pE x + pE y + 1200).toNat ∧ (∀ j, (f' j - f j).natAbs ≤ 12884901888) ∧ Below g w w' := by
  obtain ⟨M, hM⟩ : ∃ M, M = pA x := ⟨_, rfl⟩
  obtain ⟨N, hN⟩ : ∃ N, N = pA y := ⟨_, rfl⟩
  obtain ⟨E, hE⟩ : ∃ E : Nat, (E : Int) = pE x + pE y + 1200 := ⟨(pE x + pE y + 1200).toNat, by omega⟩
  have M53 : M < 9007199254740992 := by rw [hM]; exact pA_lt x
  have N53 : N < 9007199254740992 := by rw [hN]; exact pA_lt y
  have a1 := pM_abs x
  have a2 := pM_abs y
  rw [← hM] at a1
  rw [← hN] at a2
  have x0 := pE_ge x
  have x1 := pE_le hx
  have y0 := pE_ge y
  have y1 := pE_le hy
  obtain ⟨X, hX⟩ : ∃ X, X = pE x := ⟨_, rfl⟩
  obtain ⟨Y, hY⟩ : ∃ Y, Y = pE y := ⟨_, rfl⟩
  have hpx := fun w => parts_any x w
  have hpy := fun w => parts_any y w
  rw [← hX] at hpx x0 x1
  rw [← hY] at hpy y0 y1
  rw [← hX, ← hY] at hE hE0 hE1 ⊢
  obtain ⟨px, hpxe⟩ : ∃ p, p = pM x := ⟨_, rfl⟩
  obtain ⟨py, hpye⟩ : ∃ p, p = pM y := ⟨_, rfl⟩
  rw [← hpxe] at hpx a1 ⊢
  rw [← hpye] at hpy a2 ⊢
  clear hM hN hX hY hpxe hpye hx hy
  have eE : (X + Y + 1200).toNat = E := by omega
  rw [eE]
  obtain ⟨sg, hsg⟩ : ∃ sg : Int, px * py = sg * ((M * N : Nat) : Int) ∧ sg = (if decide (px < 0) != decide (py < 0) then -1 else 1) := by
    refine ⟨_, ?_, rfl⟩
    rcases Int.lt_or_le px 0 with c | c <;> rcases Int.lt_or_le py 0 with d | d
    · have e1 : px = -(M : Int) := by omega
      have e2 : py = -(N : Int) := by omega
      simp [c, d]
      rw [e1, e2, Int.neg_mul_neg]
    · have e1 : px = -(M : Int) := by omega
      have e2 : py = (N : Int) := by omega
      have d' : ¬ py < 0 := by omega
      simp [c, d']
      rw [e1, e2, Int.neg_mul]
    · have e1 : px = (M : Int) := by omega
      have e2 : py = -(N : Int) := by omega
      have c' : ¬ px < 0 := by omega
      simp [c', d]
      rw [e1, e2, Int.mul_neg]
    · have e1 : px = (M : Int) := by omega
      have e2 : py = (N : Int) := by omega
      have c' : ¬ px < 0 := by omega
      have d' : ¬ py < 0 := by omega
      simp [c', d']
      rw [e1, e2]
  rw [hsg.1]
  replace hsg := hsg.2
  obtain ⟨P0, hP0⟩ : ∃ P, P = M % 134217728 := ⟨_, rfl⟩
  obtain ⟨P1, hP1⟩ : ∃ P, P = M / 134217728 % 134217728 := ⟨_, rfl⟩
  obtain ⟨Q0, hQ0⟩ : ∃ P, P = N % 134217728 := ⟨_, rfl⟩
  obtain ⟨Q1, hQ1⟩ : ∃ P, P = N / 134217728 % 134217728 := ⟨_, rfl⟩
  have eA0 : bits .and .i64 (M : Int) 134217727 = (P0 : Int) := by rw [bits_27i]; omega
  have eA1 : bits .and .i64 ((M : Int) / 134217728) 134217727 = (P1 : Int) := by rw [bits_27i]; omega
  have eB0 : bits .and .i64 (N : Int) 134217727 = (Q0 : Int) := by rw [bits_27i]; omega
  have eB1 : bits .and .i64 ((N : Int) / 134217728) 134217727 = (Q1 : Int) := by rw [bits_27i]; omega
  have P0e := Lib.hid (show P0 = M / 2 ^ (27 * 0) % 134217728 by simp [hP0])
  have P1e := Lib.hid (show P1 = M / 2 ^ (27 * 1) % 134217728 by simp [hP1])
  have Q0e := Lib.hid (show Q0 = N / 2 ^ (27 * 0) % 134217728 by simp [hQ0])
  have Q1e := Lib.hid (show Q1 = N / 2 ^ (27 * 1) % 134217728 by simp [hQ1])
  have P0b : P0 < 134217728 := by omega
  have P1b : P1 < 134217728 := by omega
  have Q0b : Q0 < 134217728 := by omega
  have Q1b : Q1 < 134217728 := by omega
  clear hP0 hP1 hQ0 hQ1
  rcases Int.lt_or_le px 0 with c | c <;> rcases Int.lt_or_le py 0 with d | d
  · have c1 : px < 0 := c
    have d1 : py < 0 := d
    have e1 : -px = (M : Int) := by omega
    have e2 : -py = (N : Int) := by omega
    have hs : sg = 1 := by rw [hsg]; simp [c1, d1]
    subst hs
    have t1 : decide (px < 0) = true := decide_eq_true c1
    have t2 : decide (py < 0) = true := decide_eq_true d1
    clear a1 a2 c d hsg
    go_enter Try.func18, Try.ntmps18
    go_wp2_with fail
    refine (hpx _).mono ?_; rintro r w1 ⟨rfl, rfl⟩
    go_wp2_with fail
    refine (hpy _).mono ?_; rintro r w1 ⟨rfl, rfl⟩
    go_wp2
    go_loopw [11, 12, 13, 14, 15] (fun a _ _ _ _ wr => ∃ (f' : Nat → Int) (i : Nat), PieceInv N M (1) E (lval f) (lval f') i ∧ i ≤ 2 ∧ a = .int .i64 (i : Int) ∧ LongAt wr g f' ∧ (∀ j, (f' j - f j).natAbs ≤ i * 6442450944) ∧ Below g w wr) (fun a _ _ _ _ _ => (2 - intOf a).toNat)
    case atStart => exact ⟨f, 0, PieceInv.start _ _ _ _ _, by omega, rfl, hf, fun j => by simp, Below.refl _ _⟩
    case round =>
      obtain ⟨f', i, hI, hi, rfl, hL, hd, hB⟩ := hrel
      rcases (show i = 0 ∨ i = 1 ∨ i = 2 by omega) with rfl | rfl | rfl
      · rw [show ((0 : Nat) : Int) = 0 from rfl]
        go_wp2
        go_loopw [13, 14, 15] (fun a _ _ wr => ∃ (f2 : Nat → Int) (k : Nat), PieceInv P0 N (1) (E + 27 * 0) (lval f') (lval f2) k ∧ k ≤ 2 ∧ a = .int .i64 (k : Int) ∧ LongAt wr g f2 ∧ (∀ j, (f2 j - f j).natAbs ≤ 0 * 6442450944 + k * 3221225472) ∧ Below g w wr) (fun a _ _ _ => (2 - intOf a).toNat)
        case atStart => exact ⟨f', 0, PieceInv.start _ _ _ _ _, by omega, by simp, hL, fun j => by have := hd j; omega, hB⟩
        case round =>
          obtain ⟨f2, k, hI2, hk, rfl, hL2, hd2, hB2⟩ := hrel
          rcases (show k = 0 ∨ k = 1 ∨ k = 2 by omega) with rfl | rfl | rfl
          · have hR : P0 * Q0 < 18014398509481984 := Nat.lt_of_lt_of_le (Nat.mul_lt_mul_of_lt_of_le P0b (Nat.le_of_lt Q0b) (by decide)) (by decide)
            obtain ⟨R, hRe⟩ : ∃ R, R = P0 * Q0 := ⟨_, rfl⟩
            have eR : (P0 : Int) * (Q0 : Int) = (R : Int) := by rw [hRe, Int.natCast_mul]
            rw [← hRe] at hR
            have hReH := Lib.hid hRe
            clear hRe
            have hIH := Lib.hid hI2
            clear hI2
            go_wp2_with fail
            refine (put_any g f2 _ _ _ hL2 (by omega) (by omega) (by omega) (by omega) (fun j => by have := hd2 j; have := hb j; omega)).mono ?_; rintro r w1 ⟨rfl, f3, l3, v3, d3, e3⟩
            have hN := hIH.out.next (Q := Q0) (F := E + 27 * 0 + 27 * 0) (v' := lval f3) (a := (R : Int)) Q0e.out rfl (by rw [← hReH.out]; omega) (by rw [v3]; refine congrArg (fun t => lval f2 + ((R : Int)) * 2 ^ t) ?_; omega)
            go_wp2
            go_roundw
            case rel => exact ⟨f3, 1, hN, by omega, by simp, l3, fun j => by have := d3 j; have := hd2 j; omega, hB2.trans e3⟩
            case measure => simp [intOf]

          · have hR : P0 * Q1 < 18014398509481984 := Nat.lt_of_lt_of_le (Nat.mul_lt_mul_of_lt_of_le P0b (Nat.le_of_lt Q1b) (by decide)) (by decide)
            obtain ⟨R, hRe⟩ : ∃ R, R = P0 * Q1 := ⟨_, rfl⟩
            have eR : (P0 : Int) * (Q1 : Int) = (R : Int) := by rw [hRe, Int.natCast_mul]
            rw [← hRe] at hR
            have hReH := Lib.hid hRe
            clear hRe
            have hIH := Lib.hid hI2
            clear hI2
            go_wp2_with fail
            refine (put_any g f2 _ _ _ hL2 (by omega) (by omega) (by omega) (by omega) (fun j => by have := hd2 j; have := hb j; omega)).mono ?_; rintro r w1 ⟨rfl, f3, l3, v3, d3, e3⟩
            have hN := hIH.out.next (Q := Q1) (F := E + 27 * 0 + 27 * 1) (v' := lval f3) (a := (R : Int)) Q1e.out rfl (by rw [← hReH.out]; omega) (by rw [v3]; refine congrArg (fun t => lval f2 + ((R : Int)) * 2 ^ t) ?_; omega)
            go_wp2
            go_roundw
            case rel => exact ⟨f3, 2, hN, by omega, by simp, l3, fun j => by have := d3 j; have := hd2 j; omega, hB2.trans e3⟩
            case measure => simp [intOf]

          · have hD := hI2.done (by have : (2 : Nat) ^ (27 * 2) = 18014398509481984 := rfl
                                    omega)
            have hN := hI.next (Q := P0) (F := E + 27 * 0) (a := 1 * ((P0 * N : Nat) : Int)) P0e.out rfl (by rw [Nat.mul_comm]) hD
            have hNH := Lib.hid hN
            clear hN hD hI2 hI
            go_wp2
            go_roundw
            case rel => exact ⟨f2, 1, hNH.out, by omega, by simp, hL2, fun j => by have := hd2 j; omega, hB2⟩
            case measure => simp [intOf]

      · rw [show ((1 : Nat) : Int) = 1 from rfl]
        go_wp2
        go_loopw [13, 14, 15] (fun a _ _ wr => ∃ (f2 : Nat → Int) (k : Nat), PieceInv P1 N (1) (E + 27 * 1) (lval f') (lval f2) k ∧ k ≤ 2 ∧ a = .int .i64 (k : Int) ∧ LongAt wr g f2 ∧ (∀ j, (f2 j - f j).natAbs ≤ 1 * 6442450944 + k * 3221225472) ∧ Below g w wr) (fun a _ _ _ => (2 - intOf a).toNat)
        case atStart => exact ⟨f', 0, PieceInv.start _ _ _ _ _, by omega, by simp, hL, fun j => by have := hd j; omega, hB⟩
        case round =>
          obtain ⟨f2, k, hI2, hk, rfl, hL2, hd2, hB2⟩ := hrel
          rcases (show k = 0 ∨ k = 1 ∨ k = 2 by omega) with rfl | rfl | rfl
          · have hR : P1 * Q0 < 18014398509481984 := Nat.lt_of_lt_of_le (Nat.mul_lt_mul_of_lt_of_le P1b (Nat.le_of_lt Q0b) (by decide)) (by decide)
            obtain ⟨R, hRe⟩ : ∃ R, R = P1 * Q0 := ⟨_, rfl⟩
            have eR : (P1 : Int) * (Q0 : Int) = (R : Int) := by rw [hRe, Int.natCast_mul]
            rw [← hRe] at hR
            have hReH := Lib.hid hRe
            clear hRe
            have hIH := Lib.hid hI2
            clear hI2
            go_wp2_with fail
            refine (put_any g f2 _ _ _ hL2 (by omega) (by omega) (by omega) (by omega) (fun j => by have := hd2 j; have := hb j; omega)).mono ?_; rintro r w1 ⟨rfl, f3, l3, v3, d3, e3⟩
            have hN := hIH.out.next (Q := Q0) (F := E + 27 * 1 + 27 * 0) (v' := lval f3) (a := (R : Int)) Q0e.out rfl (by rw [← hReH.out]; omega) (by rw [v3]; refine congrArg (fun t => lval f2 + ((R : Int)) * 2 ^ t) ?_; omega)
            go_wp2
            go_roundw
            case rel => exact ⟨f3, 1, hN, by omega, by simp, l3, fun j => by have := d3 j; have := hd2 j; omega, hB2.trans e3⟩
            case measure => simp [intOf]

          · have hR : P1 * Q1 < 18014398509481984 := Nat.lt_of_lt_of_le (Nat.mul_lt_mul_of_lt_of_le P1b (Nat.le_of_lt Q1b) (by decide)) (by decide)
            obtain ⟨R, hRe⟩ : ∃ R, R = P1 * Q1 := ⟨_, rfl⟩
            have eR : (P1 : Int) * (Q1 : Int) = (R : Int) := by rw [hRe, Int.natCast_mul]
            rw [← hRe] at hR
            have hReH := Lib.hid hRe
            clear hRe
            have hIH := Lib.hid hI2
            clear hI2
            go_wp2_with fail
            refine (put_any g f2 _ _ _ hL2 (by omega) (by omega) (by omega) (by omega) (fun j => by have := hd2 j; have := hb j; omega)).mono ?_; rintro r w1 ⟨rfl, f3, l3, v3, d3, e3⟩
            have hN := hIH.out.next (Q := Q1) (F := E + 27 * 1 + 27 * 1) (v' := lval f3) (a := (R : Int)) Q1e.out rfl (by rw [← hReH.out]; omega) (by rw [v3]; refine congrArg (fun t => lval f2 + ((R : Int)) * 2 ^ t) ?_; omega)
            go_wp2
            go_roundw
            case rel => exact ⟨f3, 2, hN, by omega, by simp, l3, fun j => by have := d3 j; have := hd2 j; omega, hB2.trans e3⟩
            case measure => simp [intOf]

          · have hD := hI2.done (by have : (2 : Nat) ^ (27 * 2) = 18014398509481984 := rfl
                                    omega)
            have hN := hI.next (Q := P1) (F := E + 27 * 1) (a := 1 * ((P1 * N : Nat) : Int)) P1e.out rfl (by rw [Nat.mul_comm]) hD
            have hNH := Lib.hid hN
            clear hN hD hI2 hI
            go_wp2
            go_roundw
            case rel => exact ⟨f2, 2, hNH.out, by omega, by simp, hL2, fun j => by have := hd2 j; omega, hB2⟩
            case measure => simp [intOf]

      · have hD := hI.done (by have : (2 : Nat) ^ (27 * 2) = 18014398509481984 := rfl
                               omega)
        have hDH := Lib.hid hD
        clear hD hI
        go_wp2
        go_end0
        exact ⟨rfl, f', hL, by rw [hDH.out, Nat.mul_comm], hd, hB⟩
  · have c1 : px < 0 := c
    have d1 : ¬ py < 0 := by omega
    have e1 : -px = (M : Int) := by omega
    have e2 : py = (N : Int) := by omega
    have hs : sg = -1 := by rw [hsg]; simp [c1, d1]
    subst e2 hs
    have t1 : decide (px < 0) = true := decide_eq_true c1
    have t2 : decide ((N : Int) < 0) = false := decide_eq_false d1
    clear a1 a2 c d hsg
    go_enter Try.func18, Try.ntmps18
    go_wp2_with fail
    refine (hpx _).mono ?_; rintro r w1 ⟨rfl, rfl⟩
    go_wp2_with fail
    refine (hpy _).mono ?_; rintro r w1 ⟨rfl, rfl⟩
    go_wp2
    go_loopw [11, 12, 13, 14, 15] (fun a _ _ _ _ wr => ∃ (f' : Nat → Int) (i : Nat), PieceInv N M (-1) E (lval f) (lval f') i ∧ i ≤ 2 ∧ a = .int .i64 (i : Int) ∧ LongAt wr g f' ∧ (∀ j, (f' j - f j).natAbs ≤ i * 6442450944) ∧ Below g w wr) (fun a _ _ _ _ _ => (2 - intOf a).toNat)
    case atStart => exact ⟨f, 0, PieceInv.start _ _ _ _ _, by omega, rfl, hf, fun j => by simp, Below.refl _ _⟩
    case round =>
      obtain ⟨f', i, hI, hi, rfl, hL, hd, hB⟩ := hrel
      rcases (show i = 0 ∨ i = 1 ∨ i = 2 by omega) with rfl | rfl | rfl
      · rw [show ((0 : Nat) : Int) = 0 from rfl]
        go_wp2
        go_loopw [13, 14, 15] (fun a _ _ wr => ∃ (f2 : Nat → Int) (k : Nat), PieceInv P0 N (-1) (E + 27 * 0) (lval f') (lval f2) k ∧ k ≤ 2 ∧ a = .int .i64 (k : Int) ∧ LongAt wr g f2 ∧ (∀ j, (f2 j - f j).natAbs ≤ 0 * 6442450944 + k * 3221225472) ∧ Below g w wr) (fun a _ _ _ => (2 - intOf a).toNat)
        case atStart => exact ⟨f', 0, PieceInv.start _ _ _ _ _, by omega, by simp, hL, fun j => by have := hd j; omega, hB⟩
        case round =>
          obtain ⟨f2, k, hI2, hk, rfl, hL2, hd2, hB2⟩ := hrel
          rcases (show k = 0 ∨ k = 1 ∨ k = 2 by omega) with rfl | rfl | rfl
          · have hR : P0 * Q0 < 18014398509481984 := Nat.lt_of_lt_of_le (Nat.mul_lt_mul_of_lt_of_le P0b (Nat.le_of_lt Q0b) (by decide)) (by decide)
            obtain ⟨R, hRe⟩ : ∃ R, R = P0 * Q0 := ⟨_, rfl⟩
            have eR : (P0 : Int) * (Q0 : Int) = (R : Int) := by rw [hRe, Int.natCast_mul]
            rw [← hRe] at hR
            have hReH := Lib.hid hRe
            clear hRe
            have hIH := Lib.hid hI2
            clear hI2
            go_wp2_with fail
            refine (put_any g f2 _ _ _ hL2 (by omega) (by omega) (by omega) (by omega) (fun j => by have := hd2 j; have := hb j; omega)).mono ?_; rintro r w1 ⟨rfl, f3, l3, v3, d3, e3⟩
            have hN := hIH.out.next (Q := Q0) (F := E + 27 * 0 + 27 * 0) (v' := lval f3) (a := -(R : Int)) Q0e.out rfl (by rw [← hReH.out]; omega) (by rw [v3]; refine congrArg (fun t => lval f2 + (-(R : Int)) * 2 ^ t) ?_; omega)
            go_wp2
            go_roundw
            case rel => exact ⟨f3, 1, hN, by omega, by simp, l3, fun j => by have := d3 j; have := hd2 j; omega, hB2.trans e3⟩
            case measure => simp [intOf]

          · have hR : P0 * Q1 < 18014398509481984 := Nat.lt_of_lt_of_le (Nat.mul_lt_mul_of_lt_of_le P0b (Nat.le_of_lt Q1b) (by decide)) (by decide)
            obtain ⟨R, hRe⟩ : ∃ R, R = P0 * Q1 := ⟨_, rfl⟩
            have eR : (P0 : Int) * (Q1 : Int) = (R : Int) := by rw [hRe, Int.natCast_mul]
            rw [← hRe] at hR
            have hReH := Lib.hid hRe
            clear hRe
            have hIH := Lib.hid hI2
            clear hI2
            go_wp2_with fail
            refine (put_any g f2 _ _ _ hL2 (by omega) (by omega) (by omega) (by omega) (fun j => by have := hd2 j; have := hb j; omega)).mono ?_; rintro r w1 ⟨rfl, f3, l3, v3, d3, e3⟩
            have hN := hIH.out.next (Q := Q1) (F := E + 27 * 0 + 27 * 1) (v' := lval f3) (a := -(R : Int)) Q1e.out rfl (by rw [← hReH.out]; omega) (by rw [v3]; refine congrArg (fun t => lval f2 + (-(R : Int)) * 2 ^ t) ?_; omega)
            go_wp2
            go_roundw
            case rel => exact ⟨f3, 2, hN, by omega, by simp, l3, fun j => by have := d3 j; have := hd2 j; omega, hB2.trans e3⟩
            case measure => simp [intOf]

          · have hD := hI2.done (by have : (2 : Nat) ^ (27 * 2) = 18014398509481984 := rfl
                                    omega)
            have hN := hI.next (Q := P0) (F := E + 27 * 0) (a := -1 * ((P0 * N : Nat) : Int)) P0e.out rfl (by rw [Nat.mul_comm]) hD
            have hNH := Lib.hid hN
            clear hN hD hI2 hI
            go_wp2
            go_roundw
            case rel => exact ⟨f2, 1, hNH.out, by omega, by simp, hL2, fun j => by have := hd2 j; omega, hB2⟩
            case measure => simp [intOf]

      · rw [show ((1 : Nat) : Int) = 1 from rfl]
        go_wp2
        go_loopw [13, 14, 15] (fun a _ _ wr => ∃ (f2 : Nat → Int) (k : Nat), PieceInv P1 N (-1) (E + 27 * 1) (lval f') (lval f2) k ∧ k ≤ 2 ∧ a = .int .i64 (k : Int) ∧ LongAt wr g f2 ∧ (∀ j, (f2 j - f j).natAbs ≤ 1 * 6442450944 + k * 3221225472) ∧ Below g w wr) (fun a _ _ _ => (2 - intOf a).toNat)
        case atStart => exact ⟨f', 0, PieceInv.start _ _ _ _ _, by omega, by simp, hL, fun j => by have := hd j; omega, hB⟩
        case round =>
          obtain ⟨f2, k, hI2, hk, rfl, hL2, hd2, hB2⟩ := hrel
          rcases (show k = 0 ∨ k = 1 ∨ k = 2 by omega) with rfl | rfl | rfl
          · have hR : P1 * Q0 < 18014398509481984 := Nat.lt_of_lt_of_le (Nat.mul_lt_mul_of_lt_of_le P1b (Nat.le_of_lt Q0b) (by decide)) (by decide)
            obtain ⟨R, hRe⟩ : ∃ R, R = P1 * Q0 := ⟨_, rfl⟩
            have eR : (P1 : Int) * (Q0 : Int) = (R : Int) := by rw [hRe, Int.natCast_mul]
            rw [← hRe] at hR
            have hReH := Lib.hid hRe
            clear hRe
            have hIH := Lib.hid hI2
            clear hI2
            go_wp2_with fail
            refine (put_any g f2 _ _ _ hL2 (by omega) (by omega) (by omega) (by omega) (fun j => by have := hd2 j; have := hb j; omega)).mono ?_; rintro r w1 ⟨rfl, f3, l3, v3, d3, e3⟩
            have hN := hIH.out.next (Q := Q0) (F := E + 27 * 1 + 27 * 0) (v' := lval f3) (a := -(R : Int)) Q0e.out rfl (by rw [← hReH.out]; omega) (by rw [v3]; refine congrArg (fun t => lval f2 + (-(R : Int)) * 2 ^ t) ?_; omega)
            go_wp2
            go_roundw
            case rel => exact ⟨f3, 1, hN, by omega, by simp, l3, fun j => by have := d3 j; have := hd2 j; omega, hB2.trans e3⟩
            case measure => simp [intOf]

          · have hR : P1 * Q1 < 18014398509481984 := Nat.lt_of_lt_of_le (Nat.mul_lt_mul_of_lt_of_le P1b (Nat.le_of_lt Q1b) (by decide)) (by decide)
            obtain ⟨R, hRe⟩ : ∃ R, R = P1 * Q1 := ⟨_, rfl⟩
            have eR : (P1 : Int) * (Q1 : Int) = (R : Int) := by rw [hRe, Int.natCast_mul]
            rw [← hRe] at hR
            have hReH := Lib.hid hRe
            clear hRe
            have hIH := Lib.hid hI2
            clear hI2
            go_wp2_with fail
            refine (put_any g f2 _ _ _ hL2 (by omega) (by omega) (by omega) (by omega) (fun j => by have := hd2 j; have := hb j; omega)).mono ?_; rintro r w1 ⟨rfl, f3, l3, v3, d3, e3⟩
            have hN := hIH.out.next (Q := Q1) (F := E + 27 * 1 + 27 * 1) (v' := lval f3) (a := -(R : Int)) Q1e.out rfl (by rw [← hReH.out]; omega) (by rw [v3]; refine congrArg (fun t => lval f2 + (-(R : Int)) * 2 ^ t) ?_; omega)
            go_wp2
            go_roundw
            case rel => exact ⟨f3, 2, hN, by omega, by simp, l3, fun j => by have := d3 j; have := hd2 j; omega, hB2.trans e3⟩
            case measure => simp [intOf]

          · have hD := hI2.done (by have : (2 : Nat) ^ (27 * 2) = 18014398509481984 := rfl
                                    omega)
            have hN := hI.next (Q := P1) (F := E + 27 * 1) (a := -1 * ((P1 * N : Nat) : Int)) P1e.out rfl (by rw [Nat.mul_comm]) hD
            have hNH := Lib.hid hN
            clear hN hD hI2 hI
            go_wp2
            go_roundw
            case rel => exact ⟨f2, 2, hNH.out, by omega, by simp, hL2, fun j => by have := hd2 j; omega, hB2⟩
            case measure => simp [intOf]

      · have hD := hI.done (by have : (2 : Nat) ^ (27 * 2) = 18014398509481984 := rfl
                               omega)
        have hDH := Lib.hid hD
        clear hD hI
        go_wp2
        go_end0
        exact ⟨rfl, f', hL, by rw [hDH.out, Nat.mul_comm], hd, hB⟩
  · have c1 : ¬ px < 0 := by omega
    have d1 : py < 0 := d
    have e1 : px = (M : Int) := by omega
    have e2 : -py = (N : Int) := by omega
    have hs : sg = -1 := by rw [hsg]; simp [c1, d1]
    subst e1 hs
    have t1 : decide ((M : Int) < 0) = false := decide_eq_false c1
    have t2 : decide (py < 0) = true := decide_eq_true d1
    clear a1 a2 c d hsg
    go_enter Try.func18, Try.ntmps18
    go_wp2_with fail
    refine (hpx _).mono ?_; rintro r w1 ⟨rfl, rfl⟩
    go_wp2_with fail
    refine (hpy _).mono ?_; rintro r w1 ⟨rfl, rfl⟩
    go_wp2
    go_loopw [11, 12, 13, 14, 15] (fun a _ _ _ _ wr => ∃ (f' : Nat → Int) (i : Nat), PieceInv N M (-1) E (lval f) (lval f') i ∧ i ≤ 2 ∧ a = .int .i64 (i : Int) ∧ LongAt wr g f' ∧ (∀ j, (f' j - f j).natAbs ≤ i * 6442450944) ∧ Below g w wr) (fun a _ _ _ _ _ => (2 - intOf a).toNat)
    case atStart => exact ⟨f, 0, PieceInv.start _ _ _ _ _, by omega, rfl, hf, fun j => by simp, Below.refl _ _⟩
    case round =>
      obtain ⟨f', i, hI, hi, rfl, hL, hd, hB⟩ := hrel
      rcases (show i = 0 ∨ i = 1 ∨ i = 2 by omega) with rfl | rfl | rfl
      · rw [show ((0 : Nat) : Int) = 0 from rfl]
        go_wp2
        go_loopw [13, 14, 15] (fun a _ _ wr => ∃ (f2 : Nat → Int) (k : Nat), PieceInv P0 N (-1) (E + 27 * 0) (lval f') (lval f2) k ∧ k ≤ 2 ∧ a = .int .i64 (k : Int) ∧ LongAt wr g f2 ∧ (∀ j, (f2 j - f j).natAbs ≤ 0 * 6442450944 + k * 3221225472) ∧ Below g w wr) (fun a _ _ _ => (2 - intOf a).toNat)
        case atStart => exact ⟨f', 0, PieceInv.start _ _ _ _ _, by omega, by simp, hL, fun j => by have := hd j; omega, hB⟩
        case round =>
          obtain ⟨f2, k, hI2, hk, rfl, hL2, hd2, hB2⟩ := hrel
          rcases (show k = 0 ∨ k = 1 ∨ k = 2 by omega) with rfl | rfl | rfl
          · have hR : P0 * Q0 < 18014398509481984 := Nat.lt_of_lt_of_le (Nat.mul_lt_mul_of_lt_of_le P0b (Nat.le_of_lt Q0b) (by decide)) (by decide)
            obtain ⟨R, hRe⟩ : ∃ R, R = P0 * Q0 := ⟨_, rfl⟩
            have eR : (P0 : Int) * (Q0 : Int) = (R : Int) := by rw [hRe, Int.natCast_mul]
            rw [← hRe] at hR
            have hReH := Lib.hid hRe
            clear hRe
            have hIH := Lib.hid hI2
            clear hI2
            go_wp2_with fail
            refine (put_any g f2 _ _ _ hL2 (by omega) (by omega) (by omega) (by omega) (fun j => by have := hd2 j; have := hb j; omega)).mono ?_; rintro r w1 ⟨rfl, f3, l3, v3, d3, e3⟩
            have hN := hIH.out.next (Q := Q0) (F := E + 27 * 0 + 27 * 0) (v' := lval f3) (a := -(R : Int)) Q0e.out rfl (by rw [← hReH.out]; omega) (by rw [v3]; refine congrArg (fun t => lval f2 + (-(R : Int)) * 2 ^ t) ?_; omega)
            go_wp2
            go_roundw
            case rel => exact ⟨f3, 1, hN, by omega, by simp, l3, fun j => by have := d3 j; have := hd2 j; omega, hB2.trans e3⟩
            case measure => simp [intOf]

          · have hR : P0 * Q1 < 18014398509481984 := Nat.lt_of_lt_of_le (Nat.mul_lt_mul_of_lt_of_le P0b (Nat.le_of_lt Q1b) (by decide)) (by decide)
            obtain ⟨R, hRe⟩ : ∃ R, R = P0 * Q1 := ⟨_, rfl⟩
            have eR : (P0 : Int) * (Q1 : Int) = (R : Int) := by rw [hRe, Int.natCast_mul]
            rw [← hRe] at hR
            have hReH := Lib.hid hRe
            clear hRe
            have hIH := Lib.hid hI2
            clear hI2
            go_wp2_with fail
            refine (put_any g f2 _ _ _ hL2 (by omega) (by omega) (by omega) (by omega) (fun j => by have := hd2 j; have := hb j; omega)).mono ?_; rintro r w1 ⟨rfl, f3, l3, v3, d3, e3⟩
            have hN := hIH.out.next (Q := Q1) (F := E + 27 * 0 + 27 * 1) (v' := lval f3) (a := -(R : Int)) Q1e.out rfl (by rw [← hReH.out]; omega) (by rw [v3]; refine congrArg (fun t => lval f2 + (-(R : Int)) * 2 ^ t) ?_; omega)
            go_wp2
            go_roundw
            case rel => exact ⟨f3, 2, hN, by omega, by simp, l3, fun j => by have := d3 j; have := hd2 j; omega, hB2.trans e3⟩
            case measure => simp [intOf]

          · have hD := hI2.done (by have : (2 : Nat) ^ (27 * 2) = 18014398509481984 := rfl
                                    omega)
            have hN := hI.next (Q := P0) (F := E + 27 * 0) (a := -1 * ((P0 * N : Nat) : Int)) P0e.out rfl (by rw [Nat.mul_comm]) hD
            have hNH := Lib.hid hN
            clear hN hD hI2 hI
            go_wp2
            go_roundw
            case rel => exact ⟨f2, 1, hNH.out, by omega, by simp, hL2, fun j => by have := hd2 j; omega, hB2⟩
            case measure => simp [intOf]

      · rw [show ((1 : Nat) : Int) = 1 from rfl]
        go_wp2
        go_loopw [13, 14, 15] (fun a _ _ wr => ∃ (f2 : Nat → Int) (k : Nat), PieceInv P1 N (-1) (E + 27 * 1) (lval f') (lval f2) k ∧ k ≤ 2 ∧ a = .int .i64 (k : Int) ∧ LongAt wr g f2 ∧ (∀ j, (f2 j - f j).natAbs ≤ 1 * 6442450944 + k * 3221225472) ∧ Below g w wr) (fun a _ _ _ => (2 - intOf a).toNat)
        case atStart => exact ⟨f', 0, PieceInv.start _ _ _ _ _, by omega, by simp, hL, fun j => by have := hd j; omega, hB⟩
        case round =>
          obtain ⟨f2, k, hI2, hk, rfl, hL2, hd2, hB2⟩ := hrel
          rcases (show k = 0 ∨ k = 1 ∨ k = 2 by omega) with rfl | rfl | rfl
          · have hR : P1 * Q0 < 18014398509481984 := Nat.lt_of_lt_of_le (Nat.mul_lt_mul_of_lt_of_le P1b (Nat.le_of_lt Q0b) (by decide)) (by decide)
            obtain ⟨R, hRe⟩ : ∃ R, R = P1 * Q0 := ⟨_, rfl⟩
            have eR : (P1 : Int) * (Q0 : Int) = (R : Int) := by rw [hRe, Int.natCast_mul]
            rw [← hRe] at hR
            have hReH := Lib.hid hRe
            clear hRe
            have hIH := Lib.hid hI2
            clear hI2
            go_wp2_with fail
            refine (put_any g f2 _ _ _ hL2 (by omega) (by omega) (by omega) (by omega) (fun j => by have := hd2 j; have := hb j; omega)).mono ?_; rintro r w1 ⟨rfl, f3, l3, v3, d3, e3⟩
            have hN := hIH.out.next (Q := Q0) (F := E + 27 * 1 + 27 * 0) (v' := lval f3) (a := -(R : Int)) Q0e.out rfl (by rw [← hReH.out]; omega) (by rw [v3]; refine congrArg (fun t => lval f2 + (-(R : Int)) * 2 ^ t) ?_; omega)
            go_wp2
            go_roundw
            case rel => exact ⟨f3, 1, hN, by omega, by simp, l3, fun j => by have := d3 j; have := hd2 j; omega, hB2.trans e3⟩
            case measure => simp [intOf]

          · have hR : P1 * Q1 < 18014398509481984 := Nat.lt_of_lt_of_le (Nat.mul_lt_mul_of_lt_of_le P1b (Nat.le_of_lt Q1b) (by decide)) (by decide)
            obtain ⟨R, hRe⟩ : ∃ R, R = P1 * Q1 := ⟨_, rfl⟩
            have eR : (P1 : Int) * (Q1 : Int) = (R : Int) := by rw [hRe, Int.natCast_mul]
            rw [← hRe] at hR
            have hReH := Lib.hid hRe
            clear hRe
            have hIH := Lib.hid hI2
            clear hI2
            go_wp2_with fail
            refine (put_any g f2 _ _ _ hL2 (by omega) (by omega) (by omega) (by omega) (fun j => by have := hd2 j; have := hb j; omega)).mono ?_; rintro r w1 ⟨rfl, f3, l3, v3, d3, e3⟩
            have hN := hIH.out.next (Q := Q1) (F := E + 27 * 1 + 27 * 1) (v' := lval f3) (a := -(R : Int)) Q1e.out rfl (by rw [← hReH.out]; omega) (by rw [v3]; refine congrArg (fun t => lval f2 + (-(R : Int)) * 2 ^ t) ?_; omega)
            go_wp2
            go_roundw
            case rel => exact ⟨f3, 2, hN, by omega, by simp, l3, fun j => by have := d3 j; have := hd2 j; omega, hB2.trans e3⟩
            case measure => simp [intOf]

          · have hD := hI2.done (by have : (2 : Nat) ^ (27 * 2) = 18014398509481984 := rfl
                                    omega)
            have hN := hI.next (Q := P1) (F := E + 27 * 1) (a := -1 * ((P1 * N : Nat) : Int)) P1e.out rfl (by rw [Nat.mul_comm]) hD
            have hNH := Lib.hid hN
            clear hN hD hI2 hI
            go_wp2
            go_roundw
            case rel => exact ⟨f2, 2, hNH.out, by omega, by simp, hL2, fun j => by have := hd2 j; omega, hB2⟩
            case measure => simp [intOf]

      · have hD := hI.done (by have : (2 : Nat) ^ (27 * 2) = 18014398509481984 := rfl
                               omega)
        have hDH := Lib.hid hD
        clear hD hI
        go_wp2
        go_end0
        exact ⟨rfl, f', hL, by rw [hDH.out, Nat.mul_comm], hd, hB⟩
  · have c1 : ¬ px < 0 := by omega
    have d1 : ¬ py < 0 := by omega
    have e1 : px = (M : Int) := by omega
    have e2 : py = (N : Int) := by omega
    have hs : sg = 1 := by rw [hsg]; simp [c1, d1]
    subst e1 e2 hs
    have t1 : decide ((M : Int) < 0) = false := decide_eq_false c1
    have t2 : decide ((N : Int) < 0) = false := decide_eq_false d1
    clear a1 a2 c d hsg
    go_enter Try.func18, Try.ntmps18
    go_wp2_with fail
    refine (hpx _).mono ?_; rintro r w1 ⟨rfl, rfl⟩
    go_wp2_with fail
    refine (hpy _).mono ?_; rintro r w1 ⟨rfl, rfl⟩
    go_wp2
    go_loopw [11, 12, 13, 14, 15] (fun a _ _ _ _ wr => ∃ (f' : Nat → Int) (i : Nat), PieceInv N M (1) E (lval f) (lval f') i ∧ i ≤ 2 ∧ a = .int .i64 (i : Int) ∧ LongAt wr g f' ∧ (∀ j, (f' j - f j).natAbs ≤ i * 6442450944) ∧ Below g w wr) (fun a _ _ _ _ _ => (2 - intOf a).toNat)
    case atStart => exact ⟨f, 0, PieceInv.start _ _ _ _ _, by omega, rfl, hf, fun j => by simp, Below.refl _ _⟩
    case round =>
      obtain ⟨f', i, hI, hi, rfl, hL, hd, hB⟩ := hrel
      rcases (show i = 0 ∨ i = 1 ∨ i = 2 by omega) with rfl | rfl | rfl
      · rw [show ((0 : Nat) : Int) = 0 from rfl]
        go_wp2
        go_loopw [13, 14, 15] (fun a _ _ wr => ∃ (f2 : Nat → Int) (k : Nat), PieceInv P0 N (1) (E + 27 * 0) (lval f') (lval f2) k ∧ k ≤ 2 ∧ a = .int .i64 (k : Int) ∧ LongAt wr g f2 ∧ (∀ j, (f2 j - f j).natAbs ≤ 0 * 6442450944 + k * 3221225472) ∧ Below g w wr) (fun a _ _ _ => (2 - intOf a).toNat)
        case atStart => exact ⟨f', 0, PieceInv.start _ _ _ _ _, by omega, by simp, hL, fun j => by have := hd j; omega, hB⟩
        case round =>
          obtain ⟨f2, k, hI2, hk, rfl, hL2, hd2, hB2⟩ := hrel
          rcases (show k = 0 ∨ k = 1 ∨ k = 2 by omega) with rfl | rfl | rfl
          · have hR : P0 * Q0 < 18014398509481984 := Nat.lt_of_lt_of_le (Nat.mul_lt_mul_of_lt_of_le P0b (Nat.le_of_lt Q0b) (by decide)) (by decide)
            obtain ⟨R, hRe⟩ : ∃ R, R = P0 * Q0 := ⟨_, rfl⟩
            have eR : (P0 : Int) * (Q0 : Int) = (R : Int) := by rw [hRe, Int.natCast_mul]
            rw [← hRe] at hR
            have hReH := Lib.hid hRe
            clear hRe
            have hIH := Lib.hid hI2
            clear hI2
            go_wp2_with fail
            refine (put_any g f2 _ _ _ hL2 (by omega) (by omega) (by omega) (by omega) (fun j => by have := hd2 j; have := hb j; omega)).mono ?_; rintro r w1 ⟨rfl, f3, l3, v3, d3, e3⟩
            have hN := hIH.out.next (Q := Q0) (F := E + 27 * 0 + 27 * 0) (v' := lval f3) (a := (R : Int)) Q0e.out rfl (by rw [← hReH.out]; omega) (by rw [v3]; refine congrArg (fun t => lval f2 + ((R : Int)) * 2 ^ t) ?_; omega)
            go_wp2
            go_roundw
            case rel => exact ⟨f3, 1, hN, by omega, by simp, l3, fun j => by have := d3 j; have := hd2 j; omega, hB2.trans e3⟩
            case measure => simp [intOf]

          · have hR : P0 * Q1 < 18014398509481984 := Nat.lt_of_lt_of_le (Nat.mul_lt_mul_of_lt_of_le P0b (Nat.le_of_lt Q1b) (by decide)) (by decide)
            obtain ⟨R, hRe⟩ : ∃ R, R = P0 * Q1 := ⟨_, rfl⟩
            have eR : (P0 : Int) * (Q1 : Int) = (R : Int) := by rw [hRe, Int.natCast_mul]
            rw [← hRe] at hR
            have hReH := Lib.hid hRe
            clear hRe
            have hIH := Lib.hid hI2
            clear hI2
            go_wp2_with fail
            refine (put_any g f2 _ _ _ hL2 (by omega) (by omega) (by omega) (by omega) (fun j => by have := hd2 j; have := hb j; omega)).mono ?_; rintro r w1 ⟨rfl, f3, l3, v3, d3, e3⟩
            have hN := hIH.out.next (Q := Q1) (F := E + 27 * 0 + 27 * 1) (v' := lval f3) (a := (R : Int)) Q1e.out rfl (by rw [← hReH.out]; omega) (by rw [v3]; refine congrArg (fun t => lval f2 + ((R : Int)) * 2 ^ t) ?_; omega)
            go_wp2
            go_roundw
            case rel => exact ⟨f3, 2, hN, by omega, by simp, l3, fun j => by have := d3 j; have := hd2 j; omega, hB2.trans e3⟩
            case measure => simp [intOf]

          · have hD := hI2.done (by have : (2 : Nat) ^ (27 * 2) = 18014398509481984 := rfl
                                    omega)
            have hN := hI.next (Q := P0) (F := E + 27 * 0) (a := 1 * ((P0 * N : Nat) : Int)) P0e.out rfl (by rw [Nat.mul_comm]) hD
            have hNH := Lib.hid hN
            clear hN hD hI2 hI
            go_wp2
            go_roundw
            case rel => exact ⟨f2, 1, hNH.out, by omega, by simp, hL2, fun j => by have := hd2 j; omega, hB2⟩
            case measure => simp [intOf]

      · rw [show ((1 : Nat) : Int) = 1 from rfl]
        go_wp2
        go_loopw [13, 14, 15] (fun a _ _ wr => ∃ (f2 : Nat → Int) (k : Nat), PieceInv P1 N (1) (E + 27 * 1) (lval f') (lval f2) k ∧ k ≤ 2 ∧ a = .int .i64 (k : Int) ∧ LongAt wr g f2 ∧ (∀ j, (f2 j - f j).natAbs ≤ 1 * 6442450944 + k * 3221225472) ∧ Below g w wr) (fun a _ _ _ => (2 - intOf a).toNat)
        case atStart => exact ⟨f', 0, PieceInv.start _ _ _ _ _, by omega, by simp, hL, fun j => by have := hd j; omega, hB⟩
        case round =>
          obtain ⟨f2, k, hI2, hk, rfl, hL2, hd2, hB2⟩ := hrel
          rcases (show k = 0 ∨ k = 1 ∨ k = 2 by omega) with rfl | rfl | rfl
          · have hR : P1 * Q0 < 18014398509481984 := Nat.lt_of_lt_of_le (Nat.mul_lt_mul_of_lt_of_le P1b (Nat.le_of_lt Q0b) (by decide)) (by decide)
            obtain ⟨R, hRe⟩ : ∃ R, R = P1 * Q0 := ⟨_, rfl⟩
            have eR : (P1 : Int) * (Q0 : Int) = (R : Int) := by rw [hRe, Int.natCast_mul]
            rw [← hRe] at hR
            have hReH := Lib.hid hRe
            clear hRe
            have hIH := Lib.hid hI2
            clear hI2
            go_wp2_with fail
            refine (put_any g f2 _ _ _ hL2 (by omega) (by omega) (by omega) (by omega) (fun j => by have := hd2 j; have := hb j; omega)).mono ?_; rintro r w1 ⟨rfl, f3, l3, v3, d3, e3⟩
            have hN := hIH.out.next (Q := Q0) (F := E + 27 * 1 + 27 * 0) (v' := lval f3) (a := (R : Int)) Q0e.out rfl (by rw [← hReH.out]; omega) (by rw [v3]; refine congrArg (fun t => lval f2 + ((R : Int)) * 2 ^ t) ?_; omega)
            go_wp2
            go_roundw
            case rel => exact ⟨f3, 1, hN, by omega, by simp, l3, fun j => by have := d3 j; have := hd2 j; omega, hB2.trans e3⟩
            case measure => simp [intOf]

          · have hR : P1 * Q1 < 18014398509481984 := Nat.lt_of_lt_of_le (Nat.mul_lt_mul_of_lt_of_le P1b (Nat.le_of_lt Q1b) (by decide)) (by decide)
            obtain ⟨R, hRe⟩ : ∃ R, R = P1 * Q1 := ⟨_, rfl⟩
            have eR : (P1 : Int) * (Q1 : Int) = (R : Int) := by rw [hRe, Int.natCast_mul]
            rw [← hRe] at hR
            have hReH := Lib.hid hRe
            clear hRe
            have hIH := Lib.hid hI2
            clear hI2
            go_wp2_with fail
            refine (put_any g f2 _ _ _ hL2 (by omega) (by omega) (by omega) (by omega) (fun j => by have := hd2 j; have := hb j; omega)).mono ?_; rintro r w1 ⟨rfl, f3, l3, v3, d3, e3⟩
            have hN := hIH.out.next (Q := Q1) (F := E + 27 * 1 + 27 * 1) (v' := lval f3) (a := (R : Int)) Q1e.out rfl (by rw [← hReH.out]; omega) (by rw [v3]; refine congrArg (fun t => lval f2 + ((R : Int)) * 2 ^ t) ?_; omega)
            go_wp2
            go_roundw
            case rel => exact ⟨f3, 2, hN, by omega, by simp, l3, fun j => by have := d3 j; have := hd2 j; omega, hB2.trans e3⟩
            case measure => simp [intOf]

          · have hD := hI2.done (by have : (2 : Nat) ^ (27 * 2) = 18014398509481984 := rfl
                                    omega)
            have hN := hI.next (Q := P1) (F := E + 27 * 1) (a := 1 * ((P1 * N : Nat) : Int)) P1e.out rfl (by rw [Nat.mul_comm]) hD
            have hNH := Lib.hid hN
            clear hN hD hI2 hI
            go_wp2
            go_roundw
            case rel => exact ⟨f2, 2, hNH.out, by omega, by simp, hL2, fun j => by have := hd2 j; omega, hB2⟩
            case measure => simp [intOf]

      · have hD := hI.done (by have : (2 : Nat) ^ (27 * 2) = 18014398509481984 := rfl
                               omega)
        have hDH := Lib.hid hD
        clear hD hI
        go_wp2
        go_end0
        exact ⟨rfl, f', hL, by rw [hDH.out, Nat.mul_comm], hd, hB⟩
end Go.Proofs.Ytknlpggbaahajaa
