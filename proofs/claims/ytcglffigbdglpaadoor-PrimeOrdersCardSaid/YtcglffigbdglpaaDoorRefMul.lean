/- The reference's remainders and products (layer 1) are the document's. -/
import Derived.Test.YtcglffigbdglpaaDoorProg
import Derived.Test.YtcglffigbdglpaaDoorSpec1
import Derived.Test.YtcglffigbdglpaaDoorBase
namespace Go.Proofs.YtcglffigbdglpaaDoor
open Go.RowKit

/-- the reference's Rest: the same. -/
theorem rest_any (x m : Int) (w : World) (h1 : 1 ≤ m) (h2 : m ≤ 4611686018427387904) :
    Calls Tryd.prog 22 #[.int .i64 x, .int .i64 m] w fun e w' => e = .returned (.int .i64 (x % m)) ∧ w = w' := by
  have hb := Dia.tmod_bd (x := x) (m := m) (by omega)
  obtain ⟨b1, b2⟩ := hb
  have h0 : (m == 0) = false := by rw [beq_eq_false_iff_ne]; omega
  by_cases hn : x.tmod m < 0
  · have e := Dia.tmod_neg (x := x) (m := m) (by omega) hn
    have E := Lib.hid e; clear e
    go_enter Tryd.func22, Tryd.ntmps22
    go_wp2
    go_ret
    exact ⟨ret_i64 E.out, rfl⟩
  · have e := Dia.tmod_pos (x := x) (m := m) (by omega) (by omega)
    have E := Lib.hid e; clear e
    go_enter Tryd.func22, Tryd.ntmps22
    go_wp2
    go_ret
    exact ⟨ret_i64 E.out, rfl⟩

/-- the reference's product of remainders, by doubling. -/
def DblInv (a b m o a' b' : Int) : Prop := 0 ≤ o ∧ o < m ∧ 0 ≤ a' ∧ a' < m ∧ 0 ≤ b' ∧ b' ≤ b ∧ (o + a' * b') % m = (a * b) % m
theorem DblInv.start {a b m : Int} (hm : 1 ≤ m) (a0 : 0 ≤ a) (a1 : a < m) (b0 : 0 ≤ b) : DblInv a b m 0 a b := ⟨by omega, by omega, a0, a1, b0, by omega, by rw [Int.zero_add]⟩
theorem DblInv.even {a b m o a' b' : Int} (h : DblInv a b m o a' b') (hm : 1 ≤ m) (hp : 0 < b') (h2 : b' % 2 = 0) : DblInv a b m o ((a' + a') % m) (b' / 2) := by
  obtain ⟨h3, h4, h5, h6, h7, h8, h9⟩ := h
  exact ⟨h3, h4, Int.emod_nonneg _ (by omega), Int.emod_lt_of_pos _ (by omega), by omega, by omega, by rw [Dia.dbl_even _ _ _ _ h2, h9]⟩
theorem DblInv.odd {a b m o a' b' : Int} (h : DblInv a b m o a' b') (hm : 1 ≤ m) (hp : 0 < b') (h2 : b' % 2 = 1) : DblInv a b m ((o + a') % m) ((a' + a') % m) (b' / 2) := by
  obtain ⟨h3, h4, h5, h6, h7, h8, h9⟩ := h
  exact ⟨Int.emod_nonneg _ (by omega), Int.emod_lt_of_pos _ (by omega), Int.emod_nonneg _ (by omega), Int.emod_lt_of_pos _ (by omega), by omega, by omega, by rw [Dia.dbl_odd _ _ _ _ h2, h9]⟩
theorem DblInv.done {a b m o a' b' : Int} (h : DblInv a b m o a' b') (hp : ¬ 0 < b') : o = (a * b) % m := by
  obtain ⟨h3, h4, h5, h6, h7, h8, h9⟩ := h
  have : b' = 0 := by omega
  rw [← h9, this, Int.mul_zero, Int.add_zero, Int.emod_eq_of_lt h3 h4]

theorem times_any (a b m : Int) (w : World) (h1 : 1 ≤ m) (h2 : m ≤ 4611686018427387904) (a0 : 0 ≤ a) (a1 : a < m) (b0 : 0 ≤ b) (b1 : b < m) :
    Calls Tryd.prog 36 #[.int .i64 a, .int .i64 b, .int .i64 m] w fun e w' => e = .returned (.int .i64 ((a * b) % m)) ∧ w = w' := by
  have hS := DblInv.start h1 a0 a1 b0
  have h0 : (m == 0) = false := by rw [beq_eq_false_iff_ne]; omega
  go_enter Tryd.func36, Tryd.ntmps36
  go_wp2
  go_loop [0, 1, 7] (fun x y z => ∃ a' b' o : Int, DblInv a b m o a' b' ∧ x = .int .i64 a' ∧ y = .int .i64 b' ∧ z = .int .i64 o) (fun _ y _ => (intOf y).toNat)
  case atStart => exact ⟨_, _, _, hS, rfl, rfl, rfl⟩
  case round =>
    obtain ⟨a', b', o, hI, rfl, rfl, rfl⟩ := hrel
    obtain ⟨i3, i4, i5, i6, i7, i8, _⟩ := id hI
    by_cases hp : 0 < b'
    · by_cases h2 : b' % 2 = 1
      · have hN := hI.odd h1 hp h2
        have t2 : (b' % 2 == 1) = true := by rw [beq_iff_eq]; exact h2
        have b2 : 0 ≤ b' / 2 := by omega
        clear h2
        go_wp2
        go_round
        case rel => exact ⟨_, _, _, hN, rfl, rfl, rfl⟩
        case measure => simp [intOf]; omega
      · have hN := hI.even h1 hp (by omega)
        have t2 : (b' % 2 == 1) = false := by rw [beq_eq_false_iff_ne]; exact h2
        clear h2
        go_wp2
        go_round
        case rel => exact ⟨_, _, _, hN, rfl, rfl, rfl⟩
        case measure => simp [intOf]; omega
    · have hd := hI.done hp
      have E := Lib.hid hd; clear hd
      go_wp2
      go_ret
      exact ⟨ret_i64 E.out, rfl⟩

theorem refMul_any (a b m : Int) (w : World) :
    Calls Tryd.prog 29 #[.int .i64 a, .int .i64 b, .int .i64 m] w fun e w' => e = .returned (.int .i64 (mulS a b m)) ∧ w = w' := by
  by_cases h1 : 1 ≤ m
  · by_cases h2 : m ≤ 4611686018427387904
    · rw [mulS_yes h1 h2, ← Dia.mul_emod_l, ← Dia.mul_emod_r]
      have x0 := Int.emod_nonneg a (by omega : m ≠ 0)
      have x1 := Int.emod_lt_of_pos a (by omega : 0 < m)
      have y0 := Int.emod_nonneg b (by omega : m ≠ 0)
      have y1 := Int.emod_lt_of_pos b (by omega : 0 < m)
      go_enter Tryd.func29, Tryd.ntmps29
      go_wp2_with fail
      refine (rest_any a m _ h1 h2).mono ?_; rintro e w' ⟨rfl, rfl⟩
      go_wp2_with fail
      refine (rest_any b m _ h1 h2).mono ?_; rintro e w' ⟨rfl, rfl⟩
      go_wp2_with fail
      refine (times_any _ _ m _ h1 h2 x0 x1 y0 y1).mono ?_; rintro e w' ⟨rfl, rfl⟩
      go_wp2
      go_ret
      exact ⟨rfl, rfl⟩
    · rw [mulS_no (by omega)]
      go_enter Tryd.func29, Tryd.ntmps29
      go_wp2
      go_ret
      exact ⟨rfl, rfl⟩
  · rw [mulS_no (by omega)]
    go_enter Tryd.func29, Tryd.ntmps29
    go_wp2
    go_ret
    exact ⟨rfl, rfl⟩

end Go.Proofs.YtcglffigbdglpaaDoor
