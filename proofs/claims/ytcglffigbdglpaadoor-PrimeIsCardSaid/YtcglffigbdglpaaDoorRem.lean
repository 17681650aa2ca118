/- mod.remainder and mod.isModulus: remainders from 0 on, and which numbers are moduli. -/
import Derived.Test.YtcglffigbdglpaaDoorProg
import Derived.Test.YtcglffigbdglpaaDoorMath
import Derived.Test.YtcglffigbdglpaaDoorBase
namespace Go.Proofs.YtcglffigbdglpaaDoor
open Go.RowKit

/-- mod.remainder: from 0 to m - 1. -/
theorem remainder_any (x m : Int) (w : World) (h1 : 1 ≤ m) (h2 : m ≤ 4611686018427387904) :
    Calls Tryd.prog 32 #[.int .i64 x, .int .i64 m] w fun e w' => e = .returned (.int .i64 (x % m)) ∧ w = w' := by
  have hb := Dia.tmod_bd (x := x) (m := m) (by omega)
  obtain ⟨b1, b2⟩ := hb
  have h0 : (m == 0) = false := by rw [beq_eq_false_iff_ne]; omega
  by_cases hn : x.tmod m < 0
  · have e := Dia.tmod_neg (x := x) (m := m) (by omega) hn
    have E := Lib.hid e; clear e
    go_enter Tryd.func32, Tryd.ntmps32
    go_wp2
    go_ret
    exact ⟨ret_i64 E.out, rfl⟩
  · have e := Dia.tmod_pos (x := x) (m := m) (by omega) (by omega)
    have E := Lib.hid e; clear e
    go_enter Tryd.func32, Tryd.ntmps32
    go_wp2
    go_ret
    exact ⟨ret_i64 E.out, rfl⟩

/-- mod.isModulus: from 1 to MaxMod. -/
theorem isModulus_yes (m : Int) (w : World) (h1 : 1 ≤ m) (h2 : m ≤ 4611686018427387904) :
    Calls Tryd.prog 31 #[.int .i64 m] w fun e w' => e = .returned (.bool true) ∧ w = w' := by
  go_enter Tryd.func31, Tryd.ntmps31
  go_wp2
  go_ret
  exact ⟨rfl, rfl⟩
theorem isModulus_no (m : Int) (w : World) (h : m < 1 ∨ 4611686018427387904 < m) :
    Calls Tryd.prog 31 #[.int .i64 m] w fun e w' => e = .returned (.bool false) ∧ w = w' := by
  rcases h with h | h
  · have h1 : ¬ 1 ≤ m := by omega
    go_enter Tryd.func31, Tryd.ntmps31
    go_wp2
    go_ret
    exact ⟨rfl, rfl⟩
  · have h1 : 1 ≤ m := by omega
    have h2 : ¬ m ≤ 4611686018427387904 := by omega
    go_enter Tryd.func31, Tryd.ntmps31
    go_wp2
    go_ret
    exact ⟨rfl, rfl⟩

end Go.Proofs.YtcglffigbdglpaaDoor
