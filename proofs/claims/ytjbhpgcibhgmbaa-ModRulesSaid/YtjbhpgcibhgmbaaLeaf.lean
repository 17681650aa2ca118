/- Layer 1's small functions answer what the chapter says of remainders and moduli, whatever comes in: the calls that 'mod' and the reference share. -/
import Derived.Test.YtjbhpgcibhgmbaaMath
import Derived.Test.YtjbhpgcibhgmbaaShelf
import Derived.WalkKit
import Derived.ProofKit
import Derived.OpenShut
import Derived.WalkLawsBesides
import Derived.Lib.Hide
namespace Go.Proofs.Ytjbhpgcibhgmbaa
open Go.RowKit

theorem ret_i64 {a b : Int} (h : a = b) : Ending.returned (.int .i64 a) = .returned (.int .i64 b) := by rw [h]
theorem ret_u64 {a b : Int} (h : a = b) : Ending.returned (.int .u64 a) = .returned (.int .u64 b) := by rw [h]
theorem ret_bool {a b : Bool} (h : a = b) : Ending.returned (.bool a) = .returned (.bool b) := by rw [h]

theorem ret_u64u64 {a b c d : Int} (h : a = b) (k : c = d) : Ending.returned (.tuple #[.int .u64 a, .int .u64 c]) = .returned (.tuple #[.int .u64 b, .int .u64 d]) := by rw [h, k]
theorem ret_i64i64 {a b c d : Int} (h : a = b) (k : c = d) : Ending.returned (.tuple #[.int .i64 a, .int .i64 c]) = .returned (.tuple #[.int .i64 b, .int .i64 d]) := by rw [h, k]
theorem ret_i64b {a b : Int} {c d : Bool} (h : a = b) (k : c = d) : Ending.returned (.tuple #[.int .i64 a, .bool c]) = .returned (.tuple #[.int .i64 b, .bool d]) := by rw [h, k]

/-! 'Grown' goes on: over further draws, and from one call to the next -/
theorem _root_.Go.RowKit.Grown.drewN {W w' : World} (h : Grown W w') (n : Nat) : Grown W (w'.drewN n) := h
theorem _root_.Go.RowKit.Grown.trans {W w1 w2 : World} (h : Grown W w1) (k : Grown w1 w2) : Grown W w2 := by
  exact ⟨World.keptBut_trans h.1 k.1, fun a => (k.2.1 a).trans (h.2.1 a), Nat.le_trans h.2.2 k.2.2⟩

/-- mod.remainder: from 0 to m - 1. -/
theorem remainder_any (x m : Int) (w : World) (h1 : 1 ≤ m) (h2 : m ≤ 4611686018427387904) :
    Calls Try.prog 25 #[.int .i64 x, .int .i64 m] w fun e w' => e = .returned (.int .i64 (x % m)) ∧ w = w' := by
  have hb := Dia.tmod_bd (x := x) (m := m) (by omega)
  obtain ⟨b1, b2⟩ := hb
  have h0 : (m == 0) = false := by rw [beq_eq_false_iff_ne]; omega
  by_cases hn : x.tmod m < 0
  · have e := Dia.tmod_neg (x := x) (m := m) (by omega) hn
    have E := Lib.hid e; clear e
    go_enter Try.func25, Try.ntmps25
    go_wp2
    go_ret
    exact ⟨ret_i64 E.out, rfl⟩
  · have e := Dia.tmod_pos (x := x) (m := m) (by omega) (by omega)
    have E := Lib.hid e; clear e
    go_enter Try.func25, Try.ntmps25
    go_wp2
    go_ret
    exact ⟨ret_i64 E.out, rfl⟩

/-- the reference's Rest: the same. -/
theorem rest_any (x m : Int) (w : World) (h1 : 1 ≤ m) (h2 : m ≤ 4611686018427387904) :
    Calls Try.prog 27 #[.int .i64 x, .int .i64 m] w fun e w' => e = .returned (.int .i64 (x % m)) ∧ w = w' := by
  have hb := Dia.tmod_bd (x := x) (m := m) (by omega)
  obtain ⟨b1, b2⟩ := hb
  have h0 : (m == 0) = false := by rw [beq_eq_false_iff_ne]; omega
  by_cases hn : x.tmod m < 0
  · have e := Dia.tmod_neg (x := x) (m := m) (by omega) hn
    have E := Lib.hid e; clear e
    go_enter Try.func27, Try.ntmps27
    go_wp2
    go_ret
    exact ⟨ret_i64 E.out, rfl⟩
  · have e := Dia.tmod_pos (x := x) (m := m) (by omega) (by omega)
    have E := Lib.hid e; clear e
    go_enter Try.func27, Try.ntmps27
    go_wp2
    go_ret
    exact ⟨ret_i64 E.out, rfl⟩

/-- mod.isModulus: from 1 to MaxMod. -/
theorem isModulus_yes (m : Int) (w : World) (h1 : 1 ≤ m) (h2 : m ≤ 4611686018427387904) :
    Calls Try.prog 23 #[.int .i64 m] w fun e w' => e = .returned (.bool true) ∧ w = w' := by
  go_enter Try.func23, Try.ntmps23
  go_wp2
  go_ret
  exact ⟨rfl, rfl⟩
theorem isModulus_no (m : Int) (w : World) (h : m < 1 ∨ 4611686018427387904 < m) :
    Calls Try.prog 23 #[.int .i64 m] w fun e w' => e = .returned (.bool false) ∧ w = w' := by
  rcases h with h | h
  · have h1 : ¬ 1 ≤ m := by omega
    go_enter Try.func23, Try.ntmps23
    go_wp2
    go_ret
    exact ⟨rfl, rfl⟩
  · have h1 : 1 ≤ m := by omega
    have h2 : ¬ m ≤ 4611686018427387904 := by omega
    go_enter Try.func23, Try.ntmps23
    go_wp2
    go_ret
    exact ⟨rfl, rfl⟩

/-- the statements' modulus: one is made of any number. -/
def modu (m : Int) : Int := if m < 0 then 1 + (-(m + 1)) % 4611686018427387904 else 1 + m % 4611686018427387904
theorem modu_bd (m : Int) : 1 ≤ modu m ∧ modu m ≤ 4611686018427387904 := by unfold modu; split <;> omega
theorem modulus_any (m : Int) (w : World) (h1 : -9223372036854775808 ≤ m) (h2 : m ≤ 9223372036854775807) :
    Calls Try.prog 14 #[.int .i64 m] w fun e w' => e = .returned (.int .i64 (modu m)) ∧ w = w' := by
  by_cases hn : m < 0
  · have e : modu m = 1 + (-(m + 1)) % 4611686018427387904 := by unfold modu; rw [if_pos hn]
    have E := Lib.hid e; clear e
    have q0 : 0 ≤ -(m + 1) := by omega
    have q1 : -(m + 1) ≤ 9223372036854775807 := by omega
    go_enter Try.func14, Try.ntmps14
    go_wp2
    go_ret
    exact ⟨ret_i64 (by rw [E.out, ← Int.tmod_eq_emod_of_nonneg q0, Int.neg_tmod]; have := Dia.tmod_bd (x := m + 1) (m := 4611686018427387904) (by omega); unfold wrap64; omega), rfl⟩
  · have e : modu m = 1 + m % 4611686018427387904 := by unfold modu; rw [if_neg hn]
    have E := Lib.hid e; clear e
    go_enter Try.func14, Try.ntmps14
    go_wp2
    go_ret
    exact ⟨ret_i64 (by rw [E.out]), rfl⟩

/-- the reference's product of remainders, by doubling. -/
def DblInv (a b m o a' b' : Int) : Prop := 0 ≤ o ∧ o < m ∧ 0 ≤ a' ∧ a' < m ∧ 0 ≤ b' ∧ b' ≤ b ∧ (o + a' * b') % m = (a * b) % m
theorem DblInv.start {a b m : Int} (hm : 1 ≤ m) (a0 : 0 ≤ a) (a1 : a < m) (b0 : 0 ≤ b) : DblInv a b m 0 a b := ⟨by omega, by omega, a0, a1, b0, by omega, by rw [Int.zero_add]⟩
theorem DblInv.even {a b m o a' b' : Int} (h : DblInv a b m o a' b') (hm : 1 ≤ m) (hp : 0 < b') (h2 : b' % 2 = 0) : DblInv a b m o ((a' + a') % m) (b' / 2) := by
  obtain ⟨h3, h4, h5, h6, h7, h8, h9⟩ := h
  exact ⟨h3, h4, Int.emod_nonneg _ (by omega), Int.emod_lt_of_pos _ (by omega), by omega, by omega, by rw [Dia.dbl_even _ _ _ _ h2, h9]⟩
theorem DblInv.odd {a b m o a' b' : Int} (h : DblInv a b m o a' b') (hm : 1 ≤ m) (hp : 0 < b') (h2 : b' % 2 = 1) : DblInv a b m ((o + a') % m) ((a' + a') % m) (b' / 2) := by
  obtain ⟨h3, h4, h5, h6, h7, h8, h9⟩ := h
  exact ⟨Int.emod_nonneg _ (by omega), Int.emod_lt_of_pos _ (by omega), Int.emod_nonneg _ (by omega), Int.emod_lt_of_pos _ (by omega), by omega, by omega, by rw [Dia.dbl_odd _ _ _ _ h2, h9]⟩
theorem DblInv.done {a b m o a' b' : Int} (h : DblInv a b m o a' b') (hp : ¬ 0 < b') : o = (a * b) % m := by
  obtain ⟨h3, h4, h5, h6, h7, h8, h9⟩ := h
  have : b' = 0 := by omega
  rw [← h9, this, Int.mul_zero, Int.add_zero, Int.emod_eq_of_lt h3 h4]

theorem times_any (a b m : Int) (w : World) (h1 : 1 ≤ m) (h2 : m ≤ 4611686018427387904) (a0 : 0 ≤ a) (a1 : a < m) (b0 : 0 ≤ b) (b1 : b < m) :
    Calls Try.prog 28 #[.int .i64 a, .int .i64 b, .int .i64 m] w fun e w' => e = .returned (.int .i64 ((a * b) % m)) ∧ w = w' := by
  have hS := DblInv.start h1 a0 a1 b0
  have h0 : (m == 0) = false := by rw [beq_eq_false_iff_ne]; omega
  go_enter Try.func28, Try.ntmps28
  go_wp2
  go_loop [0, 1, 7] (fun x y z => ∃ a' b' o : Int, DblInv a b m o a' b' ∧ x = .int .i64 a' ∧ y = .int .i64 b' ∧ z = .int .i64 o) (fun _ y _ => (intOf y).toNat)
  case atStart => exact ⟨_, _, _, hS, rfl, rfl, rfl⟩
  case round =>
    obtain ⟨a', b', o, hI, rfl, rfl, rfl⟩ := hrel
    obtain ⟨i3, i4, i5, i6, i7, i8, _⟩ := id hI
    by_cases hp : 0 < b'
    · by_cases h2 : b' % 2 = 1
      · have hN := hI.odd h1 hp h2
        have t2 : (b' % 2 == 1) = true := by rw [beq_iff_eq]; exact h2
        have b2 : 0 ≤ b' / 2 := by omega
        clear h2
        go_wp2
        go_round
        case rel => exact ⟨_, _, _, hN, rfl, rfl, rfl⟩
        case measure => simp [intOf]; omega
      · have hN := hI.even h1 hp (by omega)
        have t2 : (b' % 2 == 1) = false := by rw [beq_eq_false_iff_ne]; exact h2
        clear h2
        go_wp2
        go_round
        case rel => exact ⟨_, _, _, hN, rfl, rfl, rfl⟩
        case measure => simp [intOf]; omega
    · have hd := hI.done hp
      have E := Lib.hid hd; clear hd
      go_wp2
      go_ret
      exact ⟨ret_i64 E.out, rfl⟩

/-- the document's product, and the document's power. -/
def mulS (a b m : Int) : Int := if 1 ≤ m ∧ m ≤ 4611686018427387904 then (a * b) % m else -1
theorem mulS_yes {a b m : Int} (h1 : 1 ≤ m) (h2 : m ≤ 4611686018427387904) : mulS a b m = (a * b) % m := if_pos ⟨h1, h2⟩
theorem mulS_no {a b m : Int} (h : m < 1 ∨ 4611686018427387904 < m) : mulS a b m = -1 := if_neg (by omega)

theorem refMul_any (a b m : Int) (w : World) :
    Calls Try.prog 16 #[.int .i64 a, .int .i64 b, .int .i64 m] w fun e w' => e = .returned (.int .i64 (mulS a b m)) ∧ w = w' := by
  by_cases h1 : 1 ≤ m
  · by_cases h2 : m ≤ 4611686018427387904
    · rw [mulS_yes h1 h2, ← Dia.mul_emod_l, ← Dia.mul_emod_r]
      have x0 := Int.emod_nonneg a (by omega : m ≠ 0)
      have x1 := Int.emod_lt_of_pos a (by omega : 0 < m)
      have y0 := Int.emod_nonneg b (by omega : m ≠ 0)
      have y1 := Int.emod_lt_of_pos b (by omega : 0 < m)
      go_enter Try.func16, Try.ntmps16
      go_wp2_with fail
      refine (rest_any a m _ h1 h2).mono ?_; rintro e w' ⟨rfl, rfl⟩
      go_wp2_with fail
      refine (rest_any b m _ h1 h2).mono ?_; rintro e w' ⟨rfl, rfl⟩
      go_wp2_with fail
      refine (times_any _ _ m _ h1 h2 x0 x1 y0 y1).mono ?_; rintro e w' ⟨rfl, rfl⟩
      go_wp2
      go_ret
      exact ⟨rfl, rfl⟩
    · rw [mulS_no (by omega)]
      go_enter Try.func16, Try.ntmps16
      go_wp2
      go_ret
      exact ⟨rfl, rfl⟩
  · rw [mulS_no (by omega)]
    go_enter Try.func16, Try.ntmps16
    go_wp2
    go_ret
    exact ⟨rfl, rfl⟩

end Go.Proofs.Ytjbhpgcibhgmbaa
