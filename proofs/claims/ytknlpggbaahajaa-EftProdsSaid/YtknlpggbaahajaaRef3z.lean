/- The reference's Times where a factor is 0 (layer 3): nothing is added. -/
import Derived.Test.YtknlpggbaahajaaRef3t
namespace Go.Proofs.Ytknlpggbaahajaa
open Go.RowKit

theorem put_zero (v : Value) (e : Int) (w : World) :
    Calls Try.prog 28 #[v, .int .i64 0, .int .i64 e] w fun r w' => r = .returned (.tuple #[]) ∧ w = w' := by
  go_enter Try.func28, Try.ntmps28
  go_wp2
  refine bodyPost_ret (results_none rfl _ _ _) rfl ?_
  exact ⟨rfl, rfl⟩
set_option maxHeartbeats 4000000 in
theorem times_zero (v : Value) (x y : Nat) (w : World) (hx : x % 9223372036854775808 < 9218868437227405312) (hy : y % 9223372036854775808 < 9218868437227405312) (hz : pM x = 0 ∨ pM y = 0) :
    Calls Try.prog 18 #[v, .float .f64 x, .float .f64 y] w fun r w' => r = .returned (.tuple #[]) ∧ w = w' := by
  have a1 := pM_abs x
  have a2 := pM_abs y
  have x0 := pE_ge x
  have x1 := pE_le hx
  have y0 := pE_ge y
  have y1 := pE_le hy
  have M53 := pA_lt x
  have N53 := pA_lt y
  have hpx := fun w => parts_any x w
  have hpy := fun w => parts_any y w
  obtain ⟨X, hX⟩ : ∃ X, X = pE x := ⟨_, rfl⟩
  obtain ⟨Y, hY⟩ : ∃ Y, Y = pE y := ⟨_, rfl⟩
  obtain ⟨M, hM⟩ : ∃ M, M = pA x := ⟨_, rfl⟩
  obtain ⟨N, hN⟩ : ∃ N, N = pA y := ⟨_, rfl⟩
  obtain ⟨px, hpxe⟩ : ∃ p, p = pM x := ⟨_, rfl⟩
  obtain ⟨py, hpye⟩ : ∃ p, p = pM y := ⟨_, rfl⟩
  rw [← hX] at hpx x0 x1
  rw [← hY] at hpy y0 y1
  rw [← hM] at a1 M53
  rw [← hN] at a2 N53
  rw [← hpxe] at hpx a1 hz
  rw [← hpye] at hpy a2 hz
  clear hM hN hX hY hpxe hpye hx hy
  obtain ⟨P0, hP0⟩ : ∃ P, P = M % 134217728 := ⟨_, rfl⟩
  obtain ⟨P1, hP1⟩ : ∃ P, P = M / 134217728 % 134217728 := ⟨_, rfl⟩
  obtain ⟨Q0, hQ0⟩ : ∃ P, P = N % 134217728 := ⟨_, rfl⟩
  obtain ⟨Q1, hQ1⟩ : ∃ P, P = N / 134217728 % 134217728 := ⟨_, rfl⟩
  have eA0 : bits .and .i64 (M : Int) 134217727 = (P0 : Int) := by rw [bits_27i]; omega
  have eA1 : bits .and .i64 ((M : Int) / 134217728) 134217727 = (P1 : Int) := by rw [bits_27i]; omega
  have eB0 : bits .and .i64 (N : Int) 134217727 = (Q0 : Int) := by rw [bits_27i]; omega
  have eB1 : bits .and .i64 ((N : Int) / 134217728) 134217727 = (Q1 : Int) := by rw [bits_27i]; omega
  have eZ : bits .and .i64 0 134217727 = 0 := by rw [bits_27i]; rfl
  have P0b : P0 < 134217728 := by omega
  have P1b : P1 < 134217728 := by omega
  have Q0b : Q0 < 134217728 := by omega
  have Q1b : Q1 < 134217728 := by omega
  clear hP0 hP1 hQ0 hQ1
  have t0 : decide ((0 : Int) < 0) = false := rfl
  rcases hz with rfl | rfl
  · rcases Int.lt_or_le py 0 with d | d
    · have d1 : py < 0 := d
      have e2 : -py = (N : Int) := by omega
      have t2 : decide (py < 0) = true := decide_eq_true d1
      clear a1 a2 d
      go_enter Try.func18, Try.ntmps18
      go_wp2_with fail
      refine (hpx _).mono ?_; rintro r w1 ⟨rfl, rfl⟩
      go_wp2_with fail
      refine (hpy _).mono ?_; rintro r w1 ⟨rfl, rfl⟩
      go_wp2
      go_loop [11, 12, 13, 14, 15] (fun a _ _ _ _ => ∃ (i : Nat), i ≤ 2 ∧ a = .int .i64 (i : Int)) (fun a _ _ _ _ => (2 - intOf a).toNat)
      case atStart => exact ⟨0, by omega, rfl⟩
      case round =>
        obtain ⟨i, hi, rfl⟩ := hrel
        rcases (show i = 0 ∨ i = 1 ∨ i = 2 by omega) with rfl | rfl | rfl
        · rw [show ((0 : Nat) : Int) = 0 from rfl]
          go_wp2
          go_loop [13, 14, 15] (fun a _ _ => ∃ (k : Nat), k ≤ 2 ∧ a = .int .i64 (k : Int)) (fun a _ _ => (2 - intOf a).toNat)
          case atStart => exact ⟨0, by omega, by simp⟩
          case round =>
            obtain ⟨k, hk, rfl⟩ := hrel
            rcases (show k = 0 ∨ k = 1 ∨ k = 2 by omega) with rfl | rfl | rfl
            · go_wp2_with fail
              refine (put_zero _ _ _).mono ?_; rintro r w1 ⟨rfl, rfl⟩
              go_wp2
              go_round
              case rel => exact ⟨1, by omega, by simp⟩
              case measure => simp [intOf]

            · go_wp2_with fail
              refine (put_zero _ _ _).mono ?_; rintro r w1 ⟨rfl, rfl⟩
              go_wp2
              go_round
              case rel => exact ⟨2, by omega, by simp⟩
              case measure => simp [intOf]

            · go_wp2
              go_round
              case rel => exact ⟨1, by omega, by simp⟩
              case measure => simp [intOf]

        · rw [show ((1 : Nat) : Int) = 1 from rfl]
          go_wp2
          go_loop [13, 14, 15] (fun a _ _ => ∃ (k : Nat), k ≤ 2 ∧ a = .int .i64 (k : Int)) (fun a _ _ => (2 - intOf a).toNat)
          case atStart => exact ⟨0, by omega, by simp⟩
          case round =>
            obtain ⟨k, hk, rfl⟩ := hrel
            rcases (show k = 0 ∨ k = 1 ∨ k = 2 by omega) with rfl | rfl | rfl
            · go_wp2_with fail
              refine (put_zero _ _ _).mono ?_; rintro r w1 ⟨rfl, rfl⟩
              go_wp2
              go_round
              case rel => exact ⟨1, by omega, by simp⟩
              case measure => simp [intOf]

            · go_wp2_with fail
              refine (put_zero _ _ _).mono ?_; rintro r w1 ⟨rfl, rfl⟩
              go_wp2
              go_round
              case rel => exact ⟨2, by omega, by simp⟩
              case measure => simp [intOf]

            · go_wp2
              go_round
              case rel => exact ⟨2, by omega, by simp⟩
              case measure => simp [intOf]

        · go_wp2
          go_end0
          exact ⟨rfl, rfl⟩
    · have d1 : ¬ py < 0 := by omega
      have e2 : py = (N : Int) := by omega
      subst e2
      have t2 : decide ((N : Int) < 0) = false := decide_eq_false d1
      clear a1 a2 d
      go_enter Try.func18, Try.ntmps18
      go_wp2_with fail
      refine (hpx _).mono ?_; rintro r w1 ⟨rfl, rfl⟩
      go_wp2_with fail
      refine (hpy _).mono ?_; rintro r w1 ⟨rfl, rfl⟩
      go_wp2
      go_loop [11, 12, 13, 14, 15] (fun a _ _ _ _ => ∃ (i : Nat), i ≤ 2 ∧ a = .int .i64 (i : Int)) (fun a _ _ _ _ => (2 - intOf a).toNat)
      case atStart => exact ⟨0, by omega, rfl⟩
      case round =>
        obtain ⟨i, hi, rfl⟩ := hrel
        rcases (show i = 0 ∨ i = 1 ∨ i = 2 by omega) with rfl | rfl | rfl
        · rw [show ((0 : Nat) : Int) = 0 from rfl]
          go_wp2
          go_loop [13, 14, 15] (fun a _ _ => ∃ (k : Nat), k ≤ 2 ∧ a = .int .i64 (k : Int)) (fun a _ _ => (2 - intOf a).toNat)
          case atStart => exact ⟨0, by omega, by simp⟩
          case round =>
            obtain ⟨k, hk, rfl⟩ := hrel
            rcases (show k = 0 ∨ k = 1 ∨ k = 2 by omega) with rfl | rfl | rfl
            · go_wp2_with fail
              refine (put_zero _ _ _).mono ?_; rintro r w1 ⟨rfl, rfl⟩
              go_wp2
              go_round
              case rel => exact ⟨1, by omega, by simp⟩
              case measure => simp [intOf]

            · go_wp2_with fail
              refine (put_zero _ _ _).mono ?_; rintro r w1 ⟨rfl, rfl⟩
              go_wp2
              go_round
              case rel => exact ⟨2, by omega, by simp⟩
              case measure => simp [intOf]

            · go_wp2
              go_round
              case rel => exact ⟨1, by omega, by simp⟩
              case measure => simp [intOf]

        · rw [show ((1 : Nat) : Int) = 1 from rfl]
          go_wp2
          go_loop [13, 14, 15] (fun a _ _ => ∃ (k : Nat), k ≤ 2 ∧ a = .int .i64 (k : Int)) (fun a _ _ => (2 - intOf a).toNat)
          case atStart => exact ⟨0, by omega, by simp⟩
          case round =>
            obtain ⟨k, hk, rfl⟩ := hrel
            rcases (show k = 0 ∨ k = 1 ∨ k = 2 by omega) with rfl | rfl | rfl
            · go_wp2_with fail
              refine (put_zero _ _ _).mono ?_; rintro r w1 ⟨rfl, rfl⟩
              go_wp2
              go_round
              case rel => exact ⟨1, by omega, by simp⟩
              case measure => simp [intOf]

            · go_wp2_with fail
              refine (put_zero _ _ _).mono ?_; rintro r w1 ⟨rfl, rfl⟩
              go_wp2
              go_round
              case rel => exact ⟨2, by omega, by simp⟩
              case measure => simp [intOf]

            · go_wp2
              go_round
              case rel => exact ⟨2, by omega, by simp⟩
              case measure => simp [intOf]

        · go_wp2
          go_end0
          exact ⟨rfl, rfl⟩
  · rcases Int.lt_or_le px 0 with d | d
    · have c1 : px < 0 := d
      have e1 : -px = (M : Int) := by omega
      have t1 : decide (px < 0) = true := decide_eq_true c1
      clear a1 a2 d
      go_enter Try.func18, Try.ntmps18
      go_wp2_with fail
      refine (hpx _).mono ?_; rintro r w1 ⟨rfl, rfl⟩
      go_wp2_with fail
      refine (hpy _).mono ?_; rintro r w1 ⟨rfl, rfl⟩
      go_wp2
      go_loop [11, 12, 13, 14, 15] (fun a _ _ _ _ => ∃ (i : Nat), i ≤ 2 ∧ a = .int .i64 (i : Int)) (fun a _ _ _ _ => (2 - intOf a).toNat)
      case atStart => exact ⟨0, by omega, rfl⟩
      case round =>
        obtain ⟨i, hi, rfl⟩ := hrel
        rcases (show i = 0 ∨ i = 1 ∨ i = 2 by omega) with rfl | rfl | rfl
        · rw [show ((0 : Nat) : Int) = 0 from rfl]
          go_wp2
          go_loop [13, 14, 15] (fun a _ _ => ∃ (k : Nat), k ≤ 2 ∧ a = .int .i64 (k : Int)) (fun a _ _ => (2 - intOf a).toNat)
          case atStart => exact ⟨0, by omega, by simp⟩
          case round =>
            obtain ⟨k, hk, rfl⟩ := hrel
            rcases (show k = 0 ∨ k = 1 ∨ k = 2 by omega) with rfl | rfl | rfl
            · go_wp2_with fail
              refine (put_zero _ _ _).mono ?_; rintro r w1 ⟨rfl, rfl⟩
              go_wp2
              go_round
              case rel => exact ⟨1, by omega, by simp⟩
              case measure => simp [intOf]

            · go_wp2_with fail
              refine (put_zero _ _ _).mono ?_; rintro r w1 ⟨rfl, rfl⟩
              go_wp2
              go_round
              case rel => exact ⟨2, by omega, by simp⟩
              case measure => simp [intOf]

            · go_wp2
              go_round
              case rel => exact ⟨1, by omega, by simp⟩
              case measure => simp [intOf]

        · rw [show ((1 : Nat) : Int) = 1 from rfl]
          go_wp2
          go_loop [13, 14, 15] (fun a _ _ => ∃ (k : Nat), k ≤ 2 ∧ a = .int .i64 (k : Int)) (fun a _ _ => (2 - intOf a).toNat)
          case atStart => exact ⟨0, by omega, by simp⟩
          case round =>
            obtain ⟨k, hk, rfl⟩ := hrel
            rcases (show k = 0 ∨ k = 1 ∨ k = 2 by omega) with rfl | rfl | rfl
            · go_wp2_with fail
              refine (put_zero _ _ _).mono ?_; rintro r w1 ⟨rfl, rfl⟩
              go_wp2
              go_round
              case rel => exact ⟨1, by omega, by simp⟩
              case measure => simp [intOf]

            · go_wp2_with fail
              refine (put_zero _ _ _).mono ?_; rintro r w1 ⟨rfl, rfl⟩
              go_wp2
              go_round
              case rel => exact ⟨2, by omega, by simp⟩
              case measure => simp [intOf]

            · go_wp2
              go_round
              case rel => exact ⟨2, by omega, by simp⟩
              case measure => simp [intOf]

        · go_wp2
          go_end0
          exact ⟨rfl, rfl⟩
    · have c1 : ¬ px < 0 := by omega
      have e1 : px = (M : Int) := by omega
      subst e1
      have t1 : decide ((M : Int) < 0) = false := decide_eq_false c1
      clear a1 a2 d
      go_enter Try.func18, Try.ntmps18
      go_wp2_with fail
      refine (hpx _).mono ?_; rintro r w1 ⟨rfl, rfl⟩
      go_wp2_with fail
      refine (hpy _).mono ?_; rintro r w1 ⟨rfl, rfl⟩
      go_wp2
      go_loop [11, 12, 13, 14, 15] (fun a _ _ _ _ => ∃ (i : Nat), i ≤ 2 ∧ a = .int .i64 (i : Int)) (fun a _ _ _ _ => (2 - intOf a).toNat)
      case atStart => exact ⟨0, by omega, rfl⟩
      case round =>
        obtain ⟨i, hi, rfl⟩ := hrel
        rcases (show i = 0 ∨ i = 1 ∨ i = 2 by omega) with rfl | rfl | rfl
        · rw [show ((0 : Nat) : Int) = 0 from rfl]
          go_wp2
          go_loop [13, 14, 15] (fun a _ _ => ∃ (k : Nat), k ≤ 2 ∧ a = .int .i64 (k : Int)) (fun a _ _ => (2 - intOf a).toNat)
          case atStart => exact ⟨0, by omega, by simp⟩
          case round =>
            obtain ⟨k, hk, rfl⟩ := hrel
            rcases (show k = 0 ∨ k = 1 ∨ k = 2 by omega) with rfl | rfl | rfl
            · go_wp2_with fail
              refine (put_zero _ _ _).mono ?_; rintro r w1 ⟨rfl, rfl⟩
              go_wp2
              go_round
              case rel => exact ⟨1, by omega, by simp⟩
              case measure => simp [intOf]

            · go_wp2_with fail
              refine (put_zero _ _ _).mono ?_; rintro r w1 ⟨rfl, rfl⟩
              go_wp2
              go_round
              case rel => exact ⟨2, by omega, by simp⟩
              case measure => simp [intOf]

            · go_wp2
              go_round
              case rel => exact ⟨1, by omega, by simp⟩
              case measure => simp [intOf]

        · rw [show ((1 : Nat) : Int) = 1 from rfl]
          go_wp2
          go_loop [13, 14, 15] (fun a _ _ => ∃ (k : Nat), k ≤ 2 ∧ a = .int .i64 (k : Int)) (fun a _ _ => (2 - intOf a).toNat)
          case atStart => exact ⟨0, by omega, by simp⟩
          case round =>
            obtain ⟨k, hk, rfl⟩ := hrel
            rcases (show k = 0 ∨ k = 1 ∨ k = 2 by omega) with rfl | rfl | rfl
            · go_wp2_with fail
              refine (put_zero _ _ _).mono ?_; rintro r w1 ⟨rfl, rfl⟩
              go_wp2
              go_round
              case rel => exact ⟨1, by omega, by simp⟩
              case measure => simp [intOf]

            · go_wp2_with fail
              refine (put_zero _ _ _).mono ?_; rintro r w1 ⟨rfl, rfl⟩
              go_wp2
              go_round
              case rel => exact ⟨2, by omega, by simp⟩
              case measure => simp [intOf]

            · go_wp2
              go_round
              case rel => exact ⟨2, by omega, by simp⟩
              case measure => simp [intOf]

        · go_wp2
          go_end0
          exact ⟨rfl, rfl⟩
end Go.Proofs.Ytknlpggbaahajaa
