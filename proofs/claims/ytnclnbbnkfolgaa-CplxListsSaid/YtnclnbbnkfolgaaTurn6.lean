/- ref06's Turn: quarter turns. -/
import Derived.Test.YtnclnbbnkfolgaaSame6
namespace Go.Proofs.Ytnclnbbnkfolgaa
open Go.RowKit

/-- n quarter turns -/
def rot6 (a b : Nat) : Nat → Nat × Nat
  | 0 => (a, b)
  | n + 1 => (Op.negFloat .f64 (rot6 a b n).2, (rot6 a b n).1)
/-- the turns of q -/
def quart6 (q : Int) : Nat := (q % 4).toNat
theorem ref6turn (a b : Nat) (q : Int) (w : World) : Calls Try.prog 17 #[.float .f64 a, .float .f64 b, .int .i64 q] w fun r w' => r = .returned (.tuple #[.float .f64 (rot6 a b (quart6 q)).1, .float .f64 (rot6 a b (quart6 q)).2]) ∧ w = w' := by
  have rn := fun (x : Nat) w => run_neg (P := Try.prog) x w
  obtain ⟨r, hr⟩ : ∃ r : Nat, r = quart6 q := ⟨_, rfl⟩
  have hrb : r < 4 := by rw [hr]; unfold quart6; omega
  obtain ⟨t, ht⟩ : ∃ t, t = q.tmod 4 := ⟨_, rfl⟩
  have h1 := Int.tmod_lt_of_pos q (show (0 : Int) < 4 by decide)
  have h2 := Int.lt_tmod_of_pos q (show (0 : Int) < 4 by decide)
  rw [← ht] at h1 h2
  have e : (t < 0 ∧ t + 4 = (r : Int)) ∨ (¬ t < 0 ∧ t = (r : Int)) := by
    have h3 := Int.mul_tdiv_add_tmod q 4
    rw [← ht] at h3
    unfold quart6 at hr
    omega
  rw [← hr]
  replace ht := ht.symm
  clear hr
  rcases e with ⟨e1, e2⟩ | ⟨e1, e2⟩
  · obtain ⟨s, hs⟩ : ∃ s, s = t + 4 := ⟨_, rfl⟩
    have e3 : s = (r : Int) := by omega
    have hs' : t + 4 = s := hs.symm
    have E2 := Lib.hid e3
    clear e2 hs e3
    go_enter Try.func17, Try.ntmps17
    go_wp2_with fail
    go_loop [0, 1, 9, 10] (fun x y z o => ∃ i : Nat, i ≤ r ∧ x = .float .f64 (rot6 a b i).1 ∧ y = .float .f64 (rot6 a b i).2 ∧ z = .int .i64 (i : Int)) (fun _ _ z _ => r - (intOf z).toNat)
    case atStart => exact ⟨0, Nat.zero_le _, rfl, rfl, rfl⟩
    case round =>
      obtain ⟨i, hi, rfl, rfl, rfl⟩ := hrel
      have E3 := E2.out
      by_cases c : i < r
      · have c' : (i : Int) < s := by omega
        have i4 : (i : Int) < 4 := by omega
        clear E3
        go_wp2
        go_round
        case rel => exact ⟨i + 1, c, rfl, rfl, rfl⟩
        case measure => simp [intOf]; omega
      · have c' : ¬ (i : Int) < s := by omega
        obtain rfl : i = r := by omega
        clear E3
        go_wp2
        go_ret2
        exact ⟨rfl, rfl⟩
  · have E2 := Lib.hid e2
    clear e2
    go_enter Try.func17, Try.ntmps17
    go_wp2_with fail
    go_loop [0, 1, 9, 10] (fun x y z o => ∃ i : Nat, i ≤ r ∧ x = .float .f64 (rot6 a b i).1 ∧ y = .float .f64 (rot6 a b i).2 ∧ z = .int .i64 (i : Int)) (fun _ _ z _ => r - (intOf z).toNat)
    case atStart => exact ⟨0, Nat.zero_le _, rfl, rfl, rfl⟩
    case round =>
      obtain ⟨i, hi, rfl, rfl, rfl⟩ := hrel
      have E3 := E2.out
      by_cases c : i < r
      · have c' : (i : Int) < t := by omega
        have i4 : (i : Int) < 4 := by omega
        clear E3
        go_wp2
        go_round
        case rel => exact ⟨i + 1, c, rfl, rfl, rfl⟩
        case measure => simp [intOf]; omega
      · have c' : ¬ (i : Int) < t := by omega
        obtain rfl : i = r := by omega
        clear E3
        go_wp2
        go_ret2
        exact ⟨rfl, rfl⟩
end Go.Proofs.Ytnclnbbnkfolgaa
