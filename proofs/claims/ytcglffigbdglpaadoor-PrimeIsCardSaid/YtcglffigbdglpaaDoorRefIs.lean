/- The reference's Is (layer 2), by trying all divisors, is the document's: which numbers are primes. -/
import Derived.Test.YtcglffigbdglpaaDoorProg
import Derived.Test.YtcglffigbdglpaaDoorNum
import Derived.Test.YtcglffigbdglpaaDoorBase
namespace Go.Proofs.YtcglffigbdglpaaDoor
open Go.RowKit Dia

theorem refIs_any (n : Int) (w : World) (hn : n ≤ 9223372036854775807) :
    Calls Tryd.prog 12 #[.int .i64 n] w fun e w' => e = .returned (.bool (primeB n)) ∧ w = w' := by
  by_cases h1 : 2 ≤ n
  · by_cases h2 : n ≤ 4611686018427387904
    · have h1' : ¬ n < 2 := by omega
      have h2' : ¬ 4611686018427387904 < n := by omega
      by_cases hp : IsP n
      · have hB := Lib.hid (primeB_yes hp h2)
        have HP := Lib.hid hp; clear hp
        rw [hB.out]
        go_enter Tryd.func12, Tryd.ntmps12
        go_wp2
        go_loop [3] (fun v => ∃ d : Int, 2 ≤ d ∧ d ≤ n ∧ v = .int .i64 d) (fun v => (n - intOf v).toNat)
        case atStart => exact ⟨2, by omega, h1, rfl⟩
        case round =>
          obtain ⟨d, d2, dn, rfl⟩ := hrel
          have t1 : (d == 0) = false := by rw [beq_eq_false_iff_ne]; omega
          have m0 := Int.emod_nonneg n (by omega : d ≠ 0)
          by_cases hle : d ≤ n / d
          · have hlt : d < n := by
              have := Int.mul_le_of_le_ediv (by omega) hle
              have : d * 2 ≤ d * d := Int.mul_le_mul_of_nonneg_left d2 (by omega)
              omega
            have hne := HP.out.2 d d2 hlt
            have t2 : (n % d == 0) = false := by rw [beq_eq_false_iff_ne]; exact hne
            clear hne
            go_wp2
            go_round
            case rel => exact ⟨d + 1, by omega, by omega, by go_num⟩
            case measure => simp [intOf]; omega
          · go_wp2
            go_ret
            exact ⟨rfl, rfl⟩
      · have hB := Lib.hid (primeB_no (n := n) fun h => hp h.1)
        rw [hB.out]
        obtain ⟨c, c2, cc, hc, hl⟩ := least_div h1 hp
        have HC := Lib.hid hc
        have HL := Lib.hid hl
        clear hp hc hl
        go_enter Tryd.func12, Tryd.ntmps12
        go_wp2
        go_loop [3] (fun v => ∃ d : Int, 2 ≤ d ∧ d ≤ c ∧ v = .int .i64 d) (fun v => (c - intOf v).toNat)
        case atStart => exact ⟨2, by omega, c2, rfl⟩
        case round =>
          obtain ⟨d, d2, dc, rfl⟩ := hrel
          have t1 : (d == 0) = false := by rw [beq_eq_false_iff_ne]; omega
          have hle : d ≤ n / d := by
            refine (Int.le_ediv_iff_mul_le (by omega)).2 ?_
            have : d * d ≤ c * c := Int.mul_le_mul dc dc (by omega) (by omega)
            omega
          have hdn : d < n := by
            have : d * 2 ≤ d * d := Int.mul_le_mul_of_nonneg_left d2 (by omega)
            have := Int.mul_le_of_le_ediv (by omega) hle
            omega
          by_cases hd : d = c
          · have t2 : (n % d == 0) = true := by rw [beq_iff_eq, hd]; exact HC.out
            clear hd
            go_wp2
            go_ret
            exact ⟨rfl, rfl⟩
          · have t2 : (n % d == 0) = false := by rw [beq_eq_false_iff_ne]; exact HL.out d d2 (by omega)
            go_wp2
            go_round
            case rel => exact ⟨d + 1, by omega, by omega, by go_num⟩
            case measure => simp [intOf]; omega
    · have hB := Lib.hid (primeB_no (n := n) fun h => h2 h.2)
      rw [hB.out]
      have h1' : ¬ n < 2 := by omega
      have h2' : 4611686018427387904 < n := by omega
      go_enter Tryd.func12, Tryd.ntmps12
      go_wp2
      go_ret
      exact ⟨rfl, rfl⟩
  · have hB := Lib.hid (primeB_no (n := n) fun h => h1 h.1.1)
    rw [hB.out]
    have h1' : n < 2 := by omega
    go_enter Tryd.func12, Tryd.ntmps12
    go_wp2
    go_ret
    exact ⟨rfl, rfl⟩

end Go.Proofs.YtcglffigbdglpaaDoor
